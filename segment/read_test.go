package segment

import (
	"bytes"
	"math/rand"
	"slices"
	"testing"

	"halftone/api"
)

// Fewer than nine bytes, with a right sum too.
func TestP22_1Short(t *testing.T) {
	rnd := rand.New(rand.NewSource(224))
	isRefused(t, nil, api.ErrShort)
	for n := range 9 {
		isRefused(t, make([]byte, n), api.ErrShort)
		isRefused(t, some(rnd, n), api.ErrShort)
		if n >= 4 {
			isRefused(t, sealed(make([]byte, n-4)), api.ErrShort)
		}
		for _, kind := range every {
			b := sealed(text(plain(kind)))
			isRefused(t, b[:n], api.ErrShort)
			if n >= 4 {
				isRefused(t, sealed(b[:n-4]), api.ErrShort)
			}
		}
	}
}

// What isn't there doesn't count, though there is room.
func TestP22_1SpareRoom(t *testing.T) {
	for _, kind := range every {
		b := sealed(text(plain(kind)))
		for n := range len(b) {
			want := api.ErrSum
			if n < 9 {
				want = api.ErrShort
			}
			isRefused(t, b[:n], want)
		}
	}
}

// Nine bytes are no message's: with the right sum ErrForm, else ErrSum; and so of more, whatever the kind.
func TestP22_1Nine(t *testing.T) {
	rnd := rand.New(rand.NewSource(225))
	for kind := range 256 {
		for n := 5; n < 40; n++ {
			b := some(rnd, n)
			b[0] = byte(kind)
			b = sealed(b)
			readAsSlow(t, b)
			if n == 5 || kind < 1 || kind > 5 {
				isRefused(t, b, api.ErrForm)
			}
			b[n+rnd.Intn(4)] ^= byte(1 << rnd.Intn(8))
			isRefused(t, b, api.ErrSum)
		}
	}
}

// A sum that isn't that of the bytes: of messages, and of what would be none.
func TestP22_1WrongSum(t *testing.T) {
	none := [][]byte{make([]byte, 9), bytes.Repeat([]byte{255}, 10), bytes.Repeat([]byte{1}, 5000)}
	for _, kind := range every {
		right := sealed(text(plain(kind)))
		n := len(right) - 4
		turned := slices.Clone(right)
		slices.Reverse(turned[n:])
		isRefused(t, turned, api.ErrSum)
		isRefused(t, append(slices.Clone(right), 0), api.ErrSum)
		isRefused(t, append(slices.Clone(right), right...), api.ErrSum)
		isRefused(t, append([]byte{0}, right...), api.ErrSum)
		isRefused(t, append(slices.Clone(right[:n]), 0, 0, 0, 0), api.ErrSum)
		// No kind, a byte missing, one behind: the sum is asked for first.
		none = append(none, append(append([]byte{6}, right[1:n]...), right[n:]...), slices.Delete(slices.Clone(right), 5, 6), slices.Insert(slices.Clone(right), 5, 99))
	}
	for _, b := range none {
		isRefused(t, b, api.ErrSum)
	}
}

func TestP22_1EveryWrongByte(t *testing.T) {
	for _, kind := range every {
		b := sealed(text(plain(kind)))
		for i := range b {
			for v := 1; v < 256; v++ {
				b[i] ^= byte(v)
				isRefused(t, b, api.ErrSum)
				b[i] ^= byte(v)
			}
		}
		reads(t, b, plain(kind))
	}
}

// No kind's number, whatever stands behind it.
func TestP22_1ReadNoKind(t *testing.T) {
	for n := range 256 {
		if n >= 1 && n <= 5 {
			continue
		}
		for _, kind := range every {
			b := text(plain(kind))
			b[0] = byte(n)
			isRefused(t, sealed(b), api.ErrForm)
		}
	}
}

// Bytes that are missing, from the end: of data without any, as long as some are there it is another message.
func TestP22_1Missing(t *testing.T) {
	for _, kind := range every {
		b := text(plain(kind))
		for n := 5; n < len(b); n++ {
			if kind == 3 && n > 10 {
				m := plain(3)
				m.Data = m.Data[:n-10]
				reads(t, sealed(b[:n]), m)
				continue
			}
			isRefused(t, sealed(b[:n]), api.ErrForm)
		}
	}
}

// Bytes behind: of data, they are more of it.
func TestP22_1Behind(t *testing.T) {
	for _, kind := range every {
		for n := 1; n < 40; n++ {
			m := plain(kind)
			more := bytes.Repeat([]byte{byte(n)}, n)
			b := sealed(append(text(m), more...))
			if kind == 3 {
				m.Data = append(m.Data, more...)
				reads(t, b, m)
				continue
			}
			isRefused(t, b, api.ErrForm)
		}
	}
	for _, kind := range every {
		isRefused(t, sealed(append(text(plain(kind)), make([]byte, 1<<20)...)), api.ErrForm)
	}
}

// Each number that bytes hold, at its bounds and outside of them.
func TestP22_1ReadBounds(t *testing.T) {
	for _, kind := range every {
		for _, s := range slots[kind] {
			m := plain(kind)
			m.Ranges = nil
			if kind == 2 {
				m.At, m.Size = 0, 1<<20
			}
			most := 1<<(8*s.size) - 1
			for _, v := range []int{0, 1, s.least, s.most - 1, s.most, s.most + 1, s.most + 2, most / 2, most/2 + 1, most - 1, most} {
				if v > most {
					continue
				}
				m := with(m, s, v)
				if v < s.least || v > s.most {
					isRefused(t, sealed(text(m)), api.ErrForm)
				} else {
					reads(t, sealed(text(m)), m)
				}
			}
		}
	}
}

// Each byte of a number of one byte.
func TestP22_1EveryByte(t *testing.T) {
	for _, c := range []struct{ kind, at, most int }{{1, 5, 15}, {2, 5, 15}, {3, 9, 8}, {5, 5, 15}, {5, 6, 255}} {
		b := text(plain(c.kind))
		for v := range 256 {
			b[c.at] = byte(v)
			_, e := Read(sealed(b))
			if want := v <= c.most; want != (e == api.OK) || !want && e != api.ErrForm {
				t.Error(c, v, e)
			}
			readAsSlow(t, sealed(b))
		}
	}
}

// Numbers of ranges that don't fit their bytes, and those that do.
func TestP22_1RangesCounted(t *testing.T) {
	for told := range 256 {
		for there := range 8 {
			m := api.Msg{Kind: api.KindAck, Boot: 3, Index: 7}
			for i := range there {
				m.Ranges = append(m.Ranges, [2]int{10 * (i + 1), 10*i + 15})
			}
			b := text(m)
			b[9] = byte(told)
			if told == there && there <= 4 {
				reads(t, sealed(b), m)
			} else {
				isRefused(t, sealed(b), api.ErrForm)
			}
			for cut := 1; there > 0 && cut < 8; cut++ {
				isRefused(t, sealed(b[:len(b)-cut]), api.ErrForm)
			}
		}
	}
	b := append([]byte{4, 0, 0, 0, 0, 0, 0, 0, 0, 255}, bytes.Repeat([]byte{0, 0, 0, 1, 0, 0, 0, 2}, 255)...)
	isRefused(t, sealed(b), api.ErrForm)
}

// A message's own fields are all that is told.
func TestP22_1ZeroBeside(t *testing.T) {
	for _, kind := range every {
		m, e := Read(sealed(text(plain(kind))))
		if e != api.OK || m.Kind != kind || m.Boot != 0x01020304 {
			t.Fatal(m, e)
		}
		for _, s := range allSlots {
			if !slices.Contains(slots[kind], s) && value(m, s) != 0 {
				t.Error(kind, s.name, value(m, s))
			}
		}
		if len(m.Data) > 0 != (kind == 3) || len(m.Ranges) > 0 != (kind == 4) {
			t.Error(kind, m.Data, m.Ranges)
		}
	}
}

// Whatever comes, no call panics.
func TestP4Whatever(t *testing.T) {
	t.Parallel()
	rnd := rand.New(rand.NewSource(226))
	for range 3000 {
		b := some(rnd, rnd.Intn(1100))
		readAsSlow(t, b)
		if len(b) > 0 {
			b[0] &= 7
		}
		readAsSlow(t, sealed(b))
	}
	readAsSlow(t, sealed(make([]byte, 1<<21)))
}
