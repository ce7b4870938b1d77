package segment

import (
	"bytes"
	"math/big"
	"math/rand"
	"reflect"
	"slices"
	"testing"

	"halftone/api"
)

// slot is a number that a kind has: its field's name, how many bytes it has, and its bounds.
type slot struct {
	name        string
	size        int
	least, most int
}

// The table of the chapter: the numbers behind the kind and the boot.
var (
	fileSlot  = slot{"File", 1, 0, 15}
	sumSlot   = slot{"Sum", 4, 0, 1<<32 - 1}
	sizeSlot  = slot{"Size", 4, 1, 1048576}
	atSlot    = slot{"At", 4, 0, 1048576}
	bodySlot  = slot{"Body", 2, 1, 1024}
	indexSlot = slot{"Index", 4, 0, 2147483647}
	passSlot  = slot{"Pass", 1, 0, 8}
	codeSlot  = slot{"Code", 1, 0, 255}

	slots = map[int][]slot{
		1: {fileSlot, sumSlot, atSlot},
		2: {fileSlot, sumSlot, sizeSlot, atSlot, bodySlot},
		3: {indexSlot, passSlot},
		4: {indexSlot},
		5: {fileSlot, codeSlot},
	}
	allSlots = []slot{fileSlot, sumSlot, sizeSlot, atSlot, bodySlot, indexSlot, passSlot, codeSlot}
)

// field is a message's field by its name.
func field(m *api.Msg, name string) reflect.Value { return reflect.ValueOf(m).Elem().FieldByName(name) }

func value(m api.Msg, s slot) int {
	f := field(&m, s.name)
	if f.CanUint() {
		return int(f.Uint())
	}
	return int(f.Int())
}

// with is the message with another number in a field.
func with(m api.Msg, s slot, v int) api.Msg {
	f := field(&m, s.name)
	if f.CanUint() {
		f.SetUint(uint64(v))
	} else {
		f.SetInt(int64(v))
	}
	return m
}

// number is n bytes of the lowest bits of a number, the highest first.
func number(v, n int) []byte {
	whole := new(big.Int).Lsh(big.NewInt(1), uint(8*n))
	return new(big.Int).Mod(big.NewInt(int64(v)), whole).FillBytes(make([]byte, n))
}

// text is the bytes of a message ahead of the sum, whether it may be or not.
func text(m api.Msg) []byte {
	b := slices.Concat(number(m.Kind, 1), number(int(m.Boot), 4))
	for _, s := range slots[m.Kind] {
		b = append(b, number(value(m, s), s.size)...)
	}
	if m.Kind == 3 {
		b = append(b, m.Data...)
	}
	if m.Kind == 4 {
		b = append(b, byte(len(m.Ranges)))
		for _, r := range m.Ranges {
			b = slices.Concat(b, number(r[0], 4), number(r[1], 4))
		}
	}
	return b
}

// slowMay asks whether a message may be, field by field.
func slowMay(m api.Msg) bool {
	has, known := slots[m.Kind]
	if !known || m.Kind == 2 && m.At > m.Size {
		return false
	}
	for _, s := range allSlots {
		v, most := value(m, s), 0
		least := 0
		if slices.Contains(has, s) {
			least, most = s.least, s.most
		}
		if v < least || v > most {
			return false
		}
	}
	if n := len(m.Data); n > 1024 || (n > 0) != (m.Kind == 3) {
		return false
	}
	n := len(m.Ranges)
	for i, r := range m.Ranges {
		if r[0] <= m.Index || r[1] <= r[0] || r[1] > 2147483647 || i > 0 && r[0] <= m.Ranges[i-1][1] {
			return false
		}
	}
	return n == 0 || n <= 4 && m.Kind == 4
}

// slowRead is how bytes are read: as the message that they would be, if it has just these bytes.
func slowRead(b []byte) (api.Msg, api.Errno) {
	if len(b) < 9 {
		return api.Msg{}, api.ErrShort
	}
	rest := b[:len(b)-4]
	if !bytes.Equal(sealed(rest), b) {
		return api.Msg{}, api.ErrSum
	}
	take := func(n int) int {
		n = min(n, len(rest))
		part := rest[:n]
		rest = rest[n:]
		return int(new(big.Int).SetBytes(part).Int64())
	}
	m := api.Msg{Kind: take(1), Boot: uint32(take(4))}
	for _, s := range slots[m.Kind] {
		m = with(m, s, take(s.size))
	}
	switch m.Kind {
	case 3:
		m.Data = slices.Clone(rest)
	case 4:
		for range take(1) {
			m.Ranges = append(m.Ranges, [2]int{take(4), take(4)})
		}
	}
	if !slowMay(m) || !bytes.Equal(sealed(text(m)), b) {
		return api.Msg{}, api.ErrForm
	}
	return m, api.OK
}

// asSlow holds both calls against the slow ones.
func asSlow(t *testing.T, m api.Msg) {
	t.Helper()
	b := sealed(text(m))
	if slowMay(m) {
		writes(t, m, b)
		return
	}
	mayNot(t, m)
	readAsSlow(t, b)
}

func readAsSlow(t *testing.T, b []byte) {
	t.Helper()
	want, e := slowRead(b)
	if e == api.OK {
		reads(t, b, want)
		return
	}
	isRefused(t, b, e)
}

// Messages that may be, of which some fields are then others.
func TestP22_1AnyFields(t *testing.T) {
	t.Parallel()
	rnd := rand.New(rand.NewSource(221))
	may := 0
	for i := range 30000 {
		m := random(rnd, every[i%5])
		for range rnd.Intn(3) {
			s := allSlots[rnd.Intn(len(allSlots))]
			m = with(m, s, near(rnd, s))
		}
		switch rnd.Intn(12) {
		case 0:
			m.Data = some(rnd, rnd.Intn(1030))
		case 1:
			m.Ranges = ranges(rnd, max(0, m.Index))
		case 2:
			m.Kind = rnd.Intn(9) - 1
		case 3:
			if n := len(m.Ranges); n > 0 {
				m.Ranges[rnd.Intn(n)][rnd.Intn(2)] += rnd.Intn(5) - 2
			}
		}
		if slowMay(m) {
			may++
		}
		asSlow(t, m)
	}
	if may < 5000 || may > 25000 {
		t.Error("of 30000 messages may be", may)
	}
}

// near is a number about a field's bounds.
func near(rnd *rand.Rand, s slot) int {
	return []int{0, s.least, s.most, -1, s.least - 1, s.most + 1, rnd.Intn(s.most + 1), -rnd.Int(), rnd.Int()}[rnd.Intn(9)]
}

// Any bytes with their sum behind them; and messages' bytes of which some are others.
func TestP22_1AnyBytes(t *testing.T) {
	t.Parallel()
	rnd := rand.New(rand.NewSource(222))
	read := 0
	for i := range 40000 {
		b := some(rnd, 5+rnd.Intn(40))
		if i%2 == 0 {
			b = text(random(rnd, every[rnd.Intn(5)]))
			for range 1 + rnd.Intn(2) {
				b[rnd.Intn(min(len(b), 30))] = byte([]int{0, 1, 2, 8, 9, 127, 128, 255, rnd.Intn(256)}[rnd.Intn(9)])
			}
		} else {
			b[0] = byte(rnd.Intn(8))
		}
		b = sealed(b)
		if _, e := Read(b); e == api.OK {
			read++
		}
		readAsSlow(t, b)
	}
	if read < 5000 || read > 35000 {
		t.Error("of 40000 texts are read", read)
	}
}
