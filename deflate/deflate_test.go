package deflate

import (
	"bytes"
	"compress/flate"
	"io"
	"math"
	"math/rand"
	"slices"
	"strings"
	"testing"

	"halftone/api"
	"halftone/inflate"
)

// some is n random bytes of so many letters.
func some(rnd *rand.Rand, n, letters int) []byte {
	b := make([]byte, n)
	for i := range b {
		b[i] = byte(rnd.Intn(letters))
	}
	return b
}

// holds packs b and holds all that P7.1 says of it.
func holds(t *testing.T, name string, b []byte, how int) []byte {
	t.Helper()
	out, e := Pack(b, how)
	if e != api.OK || len(out) == 0 {
		t.Fatal(name, how, len(b), e)
	}
	d := inflate.New(len(b))
	told, e := d.Push(out)
	if !bytes.Equal(told, b) || e != api.OK || !d.Done() || len(d.Rest()) != 0 || d.Total() != len(b) {
		t.Fatal(name, how, len(b), e, d.Done(), len(d.Rest()), d.Total())
	}
	whole := 0
	for _, m := range walk(t, out) {
		if how != anyKind && m.kind != how {
			t.Fatal(name, how, len(b), "a block of kind", m.kind)
		}
		whole += m.bytes
	}
	if whole != len(b) {
		t.Fatal(name, how, len(b), whole)
	}
	return out
}

// texts are of many kinds: short and long ones, such as can be packed and such as can't.
func texts(rnd *rand.Rand) map[string][]byte {
	every := make([]byte, 256)
	for i := range every {
		every[i] = byte(i)
	}
	far := some(rnd, 300, 256)
	return map[string][]byte{
		"none":                 nil,
		"nought":               {0},
		"255":                  {255},
		"two":                  {9, 9},
		"three":                {9, 9, 9},
		"four":                 {9, 9, 9, 9},
		"every byte":           every,
		"every byte twice":     slices.Concat(every, every),
		"words":                []byte(strings.Repeat("row by row, pass by pass; ", 100)),
		"random":               some(rnd, 5000, 256),
		"two letters":          some(rnd, 20000, 2),
		"few letters":          some(rnd, 20000, 7),
		"32768 back":           slices.Concat(far, some(rnd, 32768-300, 256), far),
		"32769 back":           slices.Concat(far, some(rnd, 32769-300, 256), far),
		"random of 65534":      some(rnd, 65534, 256),
		"random of 65535":      some(rnd, 65535, 256),
		"random of 65536":      some(rnd, 65536, 256),
		"few letters, 131070":  some(rnd, 131070, 5),
		"few letters, 131071":  some(rnd, 131071, 200),
		"noughts of 65535":     make([]byte, 65535),
		"noughts of 65536":     make([]byte, 65536),
		"noughts of 200000":    make([]byte, 200000),
		"noughts and random":   slices.Concat(make([]byte, 70000), some(rnd, 70000, 256), make([]byte, 70000)),
		"copies over the edge": bytes.Repeat(some(rnd, 1000, 256), 140),
	}
}

func TestP7_1Example(t *testing.T) {
	if b, e := Pack([]byte{7}, 0); !bytes.Equal(b, []byte{1, 1, 0, 254, 255, 7}) || e != api.OK {
		t.Error(b, e)
	}
}

func TestP7_1WrongHow(t *testing.T) {
	for _, how := range []int{math.MinInt, -4, -3, -2, -1, 4, 5, 7, 8, 255, 256, 257, 1 << 32, 1<<32 + 1, math.MaxInt} {
		for _, b := range [][]byte{nil, {}, {7}, make([]byte, 70000)} {
			if out, e := Pack(b, how); len(out) != 0 || e != api.ErrArg {
				t.Error(how, len(b), len(out), e)
			}
		}
	}
}

func TestP7_1NoBytes(t *testing.T) {
	for how := range 4 {
		a := holds(t, "nil", nil, how)
		b := holds(t, "empty", []byte{}, how)
		if !bytes.Equal(a, b) {
			t.Error(how, a, b)
		}
	}
	if b := holds(t, "nil", nil, 0); !bytes.Equal(b, []byte{1, 0, 0, 255, 255}) {
		t.Error(b)
	}
	if b := holds(t, "nil", nil, 1); !bytes.Equal(b, []byte{3, 0}) {
		t.Error(b)
	}
}

func TestP7_1Texts(t *testing.T) {
	for name, b := range texts(rand.New(rand.NewSource(71))) {
		for how := range 4 {
			out := holds(t, name, b, how)
			if len(b) == 0 {
				continue
			}
			// It tells no fewer bytes than that.
			d := inflate.New(len(b) - 1)
			if told, e := d.Push(out); len(told) != len(b)-1 || e != api.ErrLong {
				t.Error(name, how, len(told), e)
			}
		}
	}
}

// Another reader tells the same.
func TestP7_1LikeTheLibrary(t *testing.T) {
	for name, b := range texts(rand.New(rand.NewSource(72))) {
		for how := range 4 {
			out, _ := Pack(b, how)
			in := bytes.NewReader(out)
			told, err := io.ReadAll(flate.NewReader(in))
			if !bytes.Equal(told, b) || err != nil || in.Len() != 0 {
				t.Error(name, how, len(told), len(b), err, in.Len())
			}
		}
	}
}

// All texts of up to six bytes of three letters.
func TestP7_1EveryFew(t *testing.T) {
	n := 1
	for length := range 7 {
		for at := range n {
			b := make([]byte, length)
			for i := range b {
				b[i] = []byte{0, 143, 144}[at%3]
				at /= 3
			}
			for how := range 4 {
				holds(t, "few", b, how)
			}
		}
		n *= 3
	}
}

func TestP7_1EveryByteAndLength(t *testing.T) {
	for v := range 256 {
		for how := range 4 {
			holds(t, "one", []byte{byte(v)}, how)
			holds(t, "others", []byte{byte(v), byte(v + 1), byte(v)}, how)
		}
	}
	rnd := rand.New(rand.NewSource(73))
	for n := range 300 {
		for how := range 4 {
			holds(t, "random", some(rnd, n, 256), how)
			holds(t, "letters", some(rnd, n, 3), how)
		}
	}
}

// Copies of every length, and from every distance near those at which a symbol begins.
func TestP7_1EveryCopy(t *testing.T) {
	rnd := rand.New(rand.NewSource(74))
	for length := 3; length < 262; length++ {
		b := some(rnd, length, 256)
		for how := 1; how < 3; how++ {
			holds(t, "lengths", slices.Concat(b, []byte{1, 2, 3}, b, []byte{4}), how)
		}
	}
	word := []byte("halftone")
	for _, least := range append(distanceLeast, 32769) {
		for distance := least - 1; distance <= least+1; distance++ {
			if distance < len(word) {
				continue
			}
			b := slices.Concat(word, some(rnd, distance-len(word), 90), word)
			for how := 1; how < 3; how++ {
				holds(t, "distances", b, how)
			}
		}
	}
}

// Codes of which a word would have more bits than it may: each letter comes as often as the two ahead of it.
func TestP7_1LongWords(t *testing.T) {
	rnd := rand.New(rand.NewSource(75))
	var b []byte
	x, y := 1, 1
	for letter := range 23 {
		b = append(b, bytes.Repeat([]byte{byte(letter * 11)}, x)...)
		x, y = y, x+y
	}
	rnd.Shuffle(len(b), func(i, j int) { b[i], b[j] = b[j], b[i] })
	for how := range 4 {
		holds(t, "rising", b, how)
	}
}

func TestP7_1SameAgain(t *testing.T) {
	rnd := rand.New(rand.NewSource(76))
	for _, n := range []int{0, 1, 100, 70000} {
		b := some(rnd, n, 20)
		for how := range 4 {
			a, _ := Pack(b, how)
			Pack(some(rnd, 50, 20), how)
			if again, _ := Pack(b, how); !bytes.Equal(a, again) {
				t.Error(n, how)
			}
		}
	}
}

// What is handed in stays as it was, its spare room too; what was answered is nobody else's.
func TestP7_1Memory(t *testing.T) {
	rnd := rand.New(rand.NewSource(77))
	for _, n := range []int{0, 1, 2, 3, 300, 66000} {
		for how := -1; how < 5; how++ {
			room := some(rnd, n+16, 9)
			was := slices.Clone(room)
			a, _ := Pack(room[:n], how)
			if !bytes.Equal(room, was) {
				t.Fatal(n, how, "changed")
			}
			then := slices.Clone(a)
			for i := range room {
				room[i] ^= 85
			}
			b, _ := Pack(was[:n], how)
			if !bytes.Equal(a, then) || !bytes.Equal(b, then) {
				t.Fatal(n, how, "kept")
			}
			for i := range b[:cap(b)] {
				b[:cap(b)][i] ^= 85
			}
			if !bytes.Equal(a, then) {
				t.Fatal(n, how, "shared")
			}
		}
	}
}

// Stored bytes stand in as few blocks as there may be.
func TestP7_2Stored(t *testing.T) {
	rnd := rand.New(rand.NewSource(78))
	for n, blocks := range map[int]int{0: 1, 1: 1, 2: 1, 65534: 1, 65535: 1, 65536: 2, 131069: 2, 131070: 2, 131071: 3} {
		b := some(rnd, n, 256)
		out := holds(t, "stored", b, 0)
		if ms := walk(t, out); len(ms) != blocks || len(out) != n+5*blocks {
			t.Error(n, len(ms), len(out))
		}
	}
}

// bound is P7.2's.
func bound(n int) int { return n + 5*((n+65534)/65535) + 5 }

func TestP7_2Bound(t *testing.T) {
	rnd := rand.New(rand.NewSource(79))
	lengths := []int{20000, 65533, 65534, 65535, 65536, 65537, 131070, 131071}
	for n := range 150 {
		lengths = append(lengths, n, rnd.Intn(5000))
	}
	for _, n := range lengths {
		for _, letters := range []int{256, 230} {
			b := some(rnd, n, letters)
			for _, how := range []int{0, 3} {
				if out := holds(t, "bound", b, how); len(out) > bound(n) {
					t.Error(n, letters, how, len(out), bound(n))
				}
			}
		}
	}
}

// Bytes that can be packed and bytes that can't, one behind the other, so that a stored block begins at any bit.
func TestP7_2BoundOfMixed(t *testing.T) {
	rnd := rand.New(rand.NewSource(80))
	for range 8 {
		b := slices.Concat(some(rnd, 65535-rnd.Intn(9), 1+rnd.Intn(255)), some(rnd, 65535, 256), some(rnd, rnd.Intn(300), 1+rnd.Intn(256)))
		if out := holds(t, "mixed", b, 3); len(out) > bound(len(b)) {
			t.Error(len(b), len(out), bound(len(b)))
		}
	}
}

// withCopies is n random bytes, among which there are short ones again from far back.
func withCopies(rnd *rand.Rand, n, often int) []byte {
	b := some(rnd, 10, 256)
	for len(b) < n {
		if rnd.Intn(100) < often {
			from := rnd.Intn(len(b) - 5)
			b = append(b, b[from:from+3+rnd.Intn(2)]...)
			continue
		}
		b = append(b, byte(rnd.Intn(256)))
	}
	return b[:n]
}

// Of any kinds: the shortest one is taken.
func TestP7_2ShortestKind(t *testing.T) {
	rnd := rand.New(rand.NewSource(81))
	kinds := map[int]int{}
	shortest := func(b []byte) {
		t.Helper()
		least := math.MaxInt
		for how := range 3 {
			least = min(least, len(holds(t, "each", b, how)))
		}
		out := holds(t, "any", b, 3)
		if len(out) != least {
			t.Error(len(b), len(out), least)
		}
		kinds[walk(t, out)[0].kind]++
	}
	for range 200 {
		shortest(some(rnd, rnd.Intn(800), 1+rnd.Intn(256)))
	}
	for often := range 30 {
		shortest(withCopies(rnd, 2000+rnd.Intn(2000), often))
	}
	for kind := range 3 {
		if kinds[kind] == 0 {
			t.Error("never taken", kind)
		}
	}
}

func TestP7_3OneByteManyTimes(t *testing.T) {
	lengths := []int{4096, 8192, 16384, 32767, 32768, 32769, 40000, 65533, 65534, 65535, 65536}
	for n := range 540 {
		lengths = append(lengths, n)
	}
	for k := 3; k < 40; k++ {
		lengths = append(lengths, k*258, k*258+1, k*258+2, k*258+3)
	}
	for _, n := range lengths {
		for _, v := range []byte{0, 200} {
			b := bytes.Repeat([]byte{v}, n)
			for how := 1; how < 4; how++ {
				if out := holds(t, "times", b, how); len(out) > 80+n/64 {
					t.Error(n, v, how, len(out))
				}
			}
		}
	}
}

// twice holds P7.3 of a text and the same text again.
func twice(t *testing.T, name string, text []byte) {
	t.Helper()
	both := holds(t, name, slices.Concat(text, text), 3)
	most := 400 + len(text) + len(text)/16
	if len(both) > most {
		t.Error(name, len(text), len(both), most)
	}
	// Those of the text once, read as its packed ones: that is held, too.
	once := holds(t, name, text, 3)
	if len(both) > 400+len(once)+len(text)/16 {
		t.Error(name, len(text), len(both), len(once))
	}
}

func TestP7_3TextTwice(t *testing.T) {
	rnd := rand.New(rand.NewSource(82))
	lengths := []int{4094, 4095, 4096, 4000, 3333, 2048, 258, 259, 257, 0, 1, 2, 3, 4}
	for range 25 {
		lengths = append(lengths, rnd.Intn(4097))
	}
	for _, n := range lengths {
		for _, letters := range []int{1, 2, 3, 4, 5, 9, 20, 60, 200, 256} {
			twice(t, "random", some(rnd, n, letters))
		}
		// Bytes whose fixed words are the longest ones.
		high := some(rnd, n, 112)
		for i := range high {
			high[i] += 144
		}
		twice(t, "long words", high)
	}
}

// Texts in which the same three bytes stand at very many places, and the copy that is looked for at the farthest of them.
func TestP7_3TextTwiceManyPlaces(t *testing.T) {
	rnd := rand.New(rand.NewSource(83))
	for _, gap := range []int{0, 1, 2, 3, 5, 8, 20} {
		var b []byte
		for len(b)+gap+4 <= 4096 {
			b = append(b, "row"...)
			b = append(b, some(rnd, gap, 256)...)
			b = append(b, byte(rnd.Intn(256)))
		}
		twice(t, "same three", b)
	}
	for range 20 {
		b := slices.Concat(bytes.Repeat([]byte{5}, rnd.Intn(2000)), some(rnd, rnd.Intn(2000), 1+rnd.Intn(256)), bytes.Repeat([]byte{5}, rnd.Intn(96)))
		twice(t, "one byte among others", b)
	}
	// Each two and three of few letters at once: no place is near that is as long.
	twice(t, "two letters", some(rnd, 4096, 2))
}

// A copy is taken from as far as may be, but one of three bytes only where it is shorter than they are.
func TestP7_3HowFar(t *testing.T) {
	rnd := rand.New(rand.NewSource(84))
	word := some(rnd, 20, 256)
	for gap, want := range map[int]int{32768: 1, 32769: 0} {
		ms := walk(t, holds(t, "far", slices.Concat(word, some(rnd, gap-len(word), 3), word), 2))
		if got := ms[0].far / 32768; got != want {
			t.Error(gap, ms)
		}
	}
	long := some(rnd, 60000, 40)
	for _, m := range walk(t, holds(t, "three", long, 3)) {
		if m.copies == 0 || m.three > 4096 {
			t.Error(m)
		}
	}
}
