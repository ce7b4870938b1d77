package screen

import (
	"bytes"
	"image/gif"
	"math/rand"
	"slices"
	"testing"

	"halftone/api"
)

// slowWrite lays the bytes out as the chapter's list does.
func slowWrite(s api.Screen) []byte {
	n := byte(slices.Index([]int{2, 4, 8, 16, 32, 64, 128, 256}, len(s.Tints)))
	marks, own := 112+n, byte(0)
	var l, m []api.Tint
	if s.Local {
		own = 128 + n
		m = s.Tints
	} else {
		marks += 128
		l = s.Tints
	}
	if s.Laced {
		own += 64
	}
	b := top(s.W, s.H, marks, l)
	if s.Clear != -1 {
		b = append(b, 33, 249, 4, 1, 0, 0, byte(s.Clear), 0)
	}
	return append(b, place(0, 0, s.W, s.H, own, m, byte(s.Bits))...)
}

// written holds that a screen is written as it must be, and read as it was.
func written(t *testing.T, s api.Screen) []byte {
	t.Helper()
	b, e := Write(s)
	if want := slowWrite(s); !bytes.Equal(b, want) || e != api.OK {
		t.Fatal(s, b, e, "not", want)
	}
	return b
}

func TestP17_1WriteByHand(t *testing.T) {
	l := []api.Tint{{R: 1, G: 2, B: 3}, {R: 4, G: 5, B: 6}, {R: 7, G: 8, B: 9}, {R: 10, G: 11, B: 12}}
	name := []byte{71, 73, 70, 56, 57, 97}
	table := []byte{1, 2, 3, 4, 5, 6, 7, 8, 9, 10, 11, 12}
	for _, c := range []struct {
		s    api.Screen
		want []byte
	}{
		{
			api.Screen{W: 259, H: 2, Tints: l, Clear: -1, Bits: 2},
			slices.Concat(name, []byte{3, 1, 2, 0, 241, 0, 0}, table, []byte{44, 0, 0, 0, 0, 3, 1, 2, 0, 0, 2}),
		},
		{
			api.Screen{W: 259, H: 2, Tints: l, Clear: 7, Laced: true, Bits: 8},
			slices.Concat(name, []byte{3, 1, 2, 0, 241, 0, 0}, table, []byte{33, 249, 4, 1, 0, 0, 7, 0, 44, 0, 0, 0, 0, 3, 1, 2, 0, 64, 8}),
		},
		{
			api.Screen{W: 1, H: 2048, Tints: l, Local: true, Clear: 0, Bits: 5},
			slices.Concat(name, []byte{1, 0, 0, 8, 113, 0, 0, 33, 249, 4, 1, 0, 0, 0, 0, 44, 0, 0, 0, 0, 1, 0, 0, 8, 129}, table, []byte{5}),
		},
		{
			api.Screen{W: 1, H: 2048, Tints: l, Local: true, Clear: -1, Laced: true, Bits: 3},
			slices.Concat(name, []byte{1, 0, 0, 8, 113, 0, 0, 44, 0, 0, 0, 0, 1, 0, 0, 8, 193}, table, []byte{3}),
		},
	} {
		b, e := Write(c.s)
		if !bytes.Equal(b, c.want) || e != api.OK {
			t.Error(b, e, "not", c.want)
		}
		isRead(t, b, c.s)
	}
}

// Every size of a table, every least number of bits, local and not, laced and not, with and without a colour that covers nothing.
func TestP17_1WriteAll(t *testing.T) {
	for n := range 8 {
		for least := 2; least <= 8; least++ {
			for _, local := range []bool{false, true} {
				for _, laced := range []bool{false, true} {
					for _, none := range []int{-1, 0, 1, 127, 128, 255} {
						written(t, api.Screen{W: 7, H: 1 + n, Tints: tints(2 << n), Local: local, Clear: none, Laced: laced, Bits: least})
					}
				}
			}
		}
	}
}

// Every colour that covers nothing, and all sides that are edges.
func TestP17_1WriteEdges(t *testing.T) {
	for v := -1; v <= 255; v++ {
		written(t, api.Screen{W: 1, H: 1, Tints: tints(2), Clear: v, Bits: 2})
	}
	for _, side := range [][2]int{{1, 1}, {2048, 1}, {1, 2048}, {2048, 32}, {32, 2048}, {256, 256}, {255, 257}, {300, 200}} {
		written(t, api.Screen{W: side[0], H: side[1], Tints: tints(2), Clear: -1, Bits: 2})
	}
}

// spoils are what makes a screen one that may not be, in the order in which the errors are named.
func spoils() (list []func(*api.Screen), es []api.Errno) {
	add := func(e api.Errno, f func(*api.Screen)) {
		list, es = append(list, f), append(es, e)
	}
	least := -1 << 63
	for _, v := range []int{0, -1, 2049, 65536 + 3, 1 << 16, 1 << 32, 1<<62 + 3, least, 1<<63 - 1} {
		add(api.ErrHead, func(s *api.Screen) { s.W = v })
		add(api.ErrHead, func(s *api.Screen) { s.H = v })
	}
	for _, side := range [][2]int{{2048, 33}, {33, 2048}, {256, 257}, {257, 256}, {1 << 32, 1 << 32}, {0, 0}, {-1, -1}, {-256, -256}} {
		add(api.ErrHead, func(s *api.Screen) { s.W, s.H = side[0], side[1] })
	}
	for n := range 600 {
		if !slices.Contains([]int{2, 4, 8, 16, 32, 64, 128, 256}, n) {
			add(api.ErrPalette, func(s *api.Screen) { s.Tints = tints(n) })
		}
	}
	for _, v := range []int{-2, -3, 256, 257, 511, 1 << 40, least, 1<<63 - 1} {
		add(api.ErrArg, func(s *api.Screen) { s.Clear = v })
	}
	for _, v := range []int{0, 1, -1, 9, 10, 255, 258, 1 << 40, least, 1<<63 - 1} {
		add(api.ErrArg, func(s *api.Screen) { s.Bits = v })
	}
	return list, es
}

// Each thing that may not be, alone.
func TestP17_1WriteWrong(t *testing.T) {
	list, es := spoils()
	for i, spoil := range list {
		for _, local := range []bool{false, true} {
			s := api.Screen{W: 3, H: 2, Tints: tints(4), Local: local, Clear: 3, Laced: local, Bits: 2}
			written(t, s)
			spoil(&s)
			if b, e := Write(s); len(b) != 0 || e != es[i] {
				t.Error(i, s.W, s.H, len(s.Tints), s.Clear, s.Bits, b, e, "not", es[i])
			}
		}
	}
}

// Two things at once, whichever comes first: the first named counts.
func TestP17_1WriteTwoWrong(t *testing.T) {
	rank := map[api.Errno]int{api.ErrHead: 0, api.ErrPalette: 1, api.ErrArg: 2}
	list, es := spoils()
	rnd := rand.New(rand.NewSource(173))
	for i := range list {
		for range 30 {
			j := rnd.Intn(len(list))
			if es[i] == es[j] {
				continue
			}
			want := es[i]
			if rank[es[j]] < rank[want] {
				want = es[j]
			}
			s := api.Screen{W: 3, H: 2, Tints: tints(4), Clear: 3, Bits: 2}
			list[i](&s)
			list[j](&s)
			if b, e := Write(s); len(b) != 0 || e != want {
				t.Error(i, j, b, e, "not", want)
			}
		}
	}
	if b, e := Write(api.Screen{}); len(b) != 0 || e != api.ErrHead {
		t.Error(b, e)
	}
	if b, e := Write(api.Screen{W: 1, H: 1}); len(b) != 0 || e != api.ErrPalette {
		t.Error(b, e)
	}
	if b, e := Write(api.Screen{W: 1, H: 1, Tints: tints(2)}); len(b) != 0 || e != api.ErrArg {
		t.Error(b, e)
	}
}

// What is written is read as it was, whatever stands behind it.
func TestP17_2ThereAndBack(t *testing.T) {
	rnd := rand.New(rand.NewSource(174))
	for n := range 8 {
		for least := 2; least <= 8; least++ {
			for _, local := range []bool{false, true} {
				for _, laced := range []bool{false, true} {
					for _, none := range []int{-1, 0, rnd.Intn(256), 255} {
						s := api.Screen{W: 1 + rnd.Intn(2048), Tints: tints(2 << n), Local: local, Clear: none, Laced: laced, Bits: least}
						s.H = 1 + rnd.Intn(min(api.MaxSide, api.MaxPixels/s.W))
						rnd.Shuffle(len(s.Tints), func(i, j int) { s.Tints[i], s.Tints[j] = s.Tints[j], s.Tints[i] })
						back(t, rnd, s)
					}
				}
			}
		}
	}
}

// back writes a screen and reads it, with all kinds of bytes behind it.
func back(t *testing.T, rnd *rand.Rand, s api.Screen) {
	t.Helper()
	b := written(t, s)
	for range 4 {
		behind := make([]byte, rnd.Intn(30))
		rnd.Read(behind)
		got, n, e := Read(append(slices.Clone(b), behind...))
		if !same(got, s) || n != len(b) || e != api.OK {
			t.Fatal(got, n, e, "not", s)
		}
	}
	if got, n, e := Read(b[:rnd.Intn(len(b))]); !same(got, api.Screen{}) || n != 0 || e != api.ErrShort {
		t.Fatal(got, n, e)
	}
}

func TestP17_2Edges(t *testing.T) {
	for _, side := range [][2]int{{1, 1}, {2048, 1}, {1, 2048}, {2048, 32}, {32, 2048}, {256, 256}} {
		for _, none := range []int{-1, 0, 1, 2, 254, 255} {
			for _, n := range []int{2, 256} {
				s := api.Screen{W: side[0], H: side[1], Tints: tints(n), Local: none%2 == 0, Clear: none, Laced: none > 1, Bits: 8}
				isRead(t, written(t, s), s)
			}
		}
	}
}

// What is handed in stays as it was, and what is answered shares nothing with it, nor with another answer.
func TestP17_1WriteMemory(t *testing.T) {
	for _, local := range []bool{false, true} {
		l := tints(5)
		s := api.Screen{W: 3, H: 2, Tints: l[:4], Local: local, Clear: 3, Bits: 2}
		one, _ := Write(s)
		other, _ := Write(s)
		if !slices.Equal(l, tints(5)) {
			t.Error(l)
		}
		want := slices.Clone(one)
		clear(one[:cap(one)])
		clear(l)
		if !bytes.Equal(other, want) {
			t.Error(other)
		}
	}
}

// The library takes what is written for the beginning of a GIF.
func TestP17_2LibraryReads(t *testing.T) {
	for n := range 8 {
		s := api.Screen{W: 20 + n, H: 9, Tints: tints(2 << n), Clear: n, Bits: max(2, n+1)}
		c, err := gif.DecodeConfig(bytes.NewReader(written(t, s)))
		if err != nil || c.Width != s.W || c.Height != s.H {
			t.Error(c, err)
		}
	}
}
