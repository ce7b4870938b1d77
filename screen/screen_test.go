package screen

import (
	"bytes"
	"math/rand"
	"slices"
	"testing"

	"halftone/api"
)

func TestP17_1Examples(t *testing.T) {
	for text, want := range map[string]api.Errno{
		"":        api.ErrShort,
		"G":       api.ErrShort,
		"GIF":     api.ErrShort,
		"GIF87a":  api.ErrForm,
		"GIF87":   api.ErrForm,
		"GIF87a,": api.ErrForm,
		"GIF89a":  api.ErrShort,
	} {
		if s, n, e := Read([]byte(text)); !same(s, api.Screen{}) || n != 0 || e != want {
			t.Error(text, s, n, e)
		}
	}
}

// A beginning that is written out byte by byte, with a table of each sort and an extension.
func TestP17_1ByHand(t *testing.T) {
	b := []byte{71, 73, 70, 56, 57, 97, 3, 1, 2, 0, 0x91, 7, 8}
	b = append(b, 1, 2, 3, 4, 5, 6, 7, 8, 9, 10, 11, 12)
	b = append(b, 33, 249, 4, 1, 9, 9, 3, 0)
	b = append(b, 44, 0, 0, 0, 0, 3, 1, 2, 0, 0x40, 5)
	l := []api.Tint{{R: 1, G: 2, B: 3}, {R: 4, G: 5, B: 6}, {R: 7, G: 8, B: 9}, {R: 10, G: 11, B: 12}}
	isRead(t, b, api.Screen{W: 259, H: 2, Tints: l, Clear: 3, Laced: true, Bits: 5})
	b[len(b)-2] = 0x80
	b = append(b[:len(b)-1], 21, 22, 23, 24, 25, 26, 8)
	l = []api.Tint{{R: 21, G: 22, B: 23}, {R: 24, G: 25, B: 26}}
	isRead(t, b, api.Screen{W: 259, H: 2, Tints: l, Local: true, Clear: 3, Bits: 8})
}

// A table of the screen's, of the picture's, both, and none, of every size.
func TestP17_1Tables(t *testing.T) {
	for n := range byte(8) {
		l := tints(2 << n)
		s := api.Screen{W: 5, H: 4, Tints: l, Clear: -1, Bits: 8}
		isRead(t, append(top(5, 4, 128|n, l), place(0, 0, 5, 4, 0, nil, 8)...), s)
		s.Local = true
		isRead(t, append(top(5, 4, 0, nil), place(0, 0, 5, 4, 128|n, l, 8)...), s)
		for m := range byte(8) {
			other := slices.Repeat([]api.Tint{{R: 9, G: 9, B: 9}}, 2<<m)
			isRead(t, append(top(5, 4, 128|m, other), place(0, 0, 5, 4, 128|n, l, 8)...), s)
			none := append(top(5, 4, m, nil), place(0, 0, 5, 4, n, nil, 8)...)
			isWrong(t, "no table", none, len(none)-1, api.ErrPalette)
		}
	}
}

// No extension, one of each label, with blocks of every sort.
func TestP17_1Extensions(t *testing.T) {
	ahead, behind := small()
	isRead(t, slices.Concat(ahead, behind), smallScreen())
	forms := [][][]byte{
		{},
		{{0}},
		{{44, 0, 0}, {59}},
		{{33, 249, 4, 1}, {1, 0, 0, 7}, {0, 0, 0, 0}},
		{bytes.Repeat([]byte{249}, 255), bytes.Repeat([]byte{0}, 255), {1}},
		slices.Repeat([][]byte{{59}}, 40),
	}
	for label := range 256 {
		if label == 249 {
			continue
		}
		isRead(t, slices.Concat(ahead, aside(byte(label), forms[label%len(forms)]...), behind), smallScreen())
	}
	for _, f := range forms {
		isRead(t, slices.Concat(ahead, aside(254, f...), aside(1), aside(255, f...), behind), smallScreen())
	}
}

// An extension 249: which colour it names, and whether it names one.
func TestP17_1Cover(t *testing.T) {
	ahead, behind := small()
	for v := range 256 {
		s := smallScreen()
		s.Clear = v
		isRead(t, slices.Concat(ahead, covers(byte(v)), behind), s)
		// Of the first byte's bits none but the lowest says something, and nothing the two bytes behind it.
		s.Clear = -1
		if v%2 == 1 {
			s.Clear = 1
		}
		isRead(t, slices.Concat(ahead, aside(249, []byte{byte(v), byte(v), 255, 1}), behind), s)
	}
}

// Of several extensions 249 the last one counts, whether or not it names a colour, and wherever others stand.
func TestP17_1LastCover(t *testing.T) {
	ahead, behind := small()
	none, other := aside(249, []byte{254, 1, 1, 1}), aside(254, []byte{1, 0, 0, 9})
	for _, c := range []struct {
		parts [][]byte
		clear int
	}{
		{[][]byte{covers(5), covers(6)}, 6},
		{[][]byte{covers(6), covers(5)}, 5},
		{[][]byte{covers(5), none}, -1},
		{[][]byte{none, covers(5)}, 5},
		{[][]byte{none, none}, -1},
		{[][]byte{covers(5), none, covers(0)}, 0},
		{[][]byte{covers(1), covers(2), covers(3), covers(255)}, 255},
		{[][]byte{other, covers(5), other}, 5},
		{[][]byte{covers(5), other, none, other}, -1},
		{[][]byte{other, none, other, other, covers(1), aside(1)}, 1},
	} {
		s := smallScreen()
		s.Clear = c.clear
		isRead(t, slices.Concat(ahead, slices.Concat(c.parts...), behind), s)
	}
}

// An extension 249 that is another one, alone, behind a right one, and ahead of one: told at its blocks' end.
func TestP17_1WrongCover(t *testing.T) {
	ahead, behind := small()
	for _, parts := range [][][]byte{
		{},
		{{1}},
		{{1, 0}},
		{{1, 0, 0}},
		{{1, 0, 0, 1, 0}},
		{bytes.Repeat([]byte{1}, 255)},
		{{1, 0}, {0, 1}},
		{{1}, {0, 0, 1}},
		{{1, 0, 0}, {1}},
		{{1, 0, 0, 1}, {0}},
		{{1, 0, 0, 1}, {1, 0, 0, 1}},
		{{1}, {0}, {0}, {1}},
		{{0, 0, 0, 0}, {0, 0, 0, 0}},
		{{0, 0, 0}},
	} {
		wrong := aside(249, parts...)
		isWrong(t, "alone", slices.Concat(ahead, wrong, behind), len(ahead)+len(wrong), api.ErrForm)
		isWrong(t, "ahead", slices.Concat(ahead, wrong, covers(1), behind), len(ahead)+len(wrong), api.ErrForm)
		right := append(covers(1), aside(9, []byte{1})...)
		isWrong(t, "behind", slices.Concat(ahead, right, wrong, behind), len(ahead)+len(right)+len(wrong), api.ErrForm)
		// With another label it says nothing.
		isRead(t, slices.Concat(ahead, aside(250, parts...), behind), smallScreen())
	}
}

func TestP17_1Sides(t *testing.T) {
	edges := []int{0, 1, 2, 31, 32, 33, 255, 256, 257, 511, 512, 2047, 2048, 2049, 4096, 32768, 65535}
	for _, w := range edges {
		for _, h := range edges {
			b := append(top(w, h, 128, tints(2)), place(0, 0, w, h, 0, nil, 2)...)
			if w >= 1 && w <= api.MaxSide && h >= 1 && h <= api.MaxSide && w*h <= api.MaxPixels {
				isRead(t, b, api.Screen{W: w, H: h, Tints: tints(2), Clear: -1, Bits: 2})
			} else {
				isWrong(t, "sides", b, 13, api.ErrHead)
			}
		}
	}
	for _, side := range [][2]int{{2048, 32}, {32, 2048}, {256, 256}} {
		b := append(top(side[0], side[1], 128, tints(2)), place(0, 0, side[0], side[1], 0, nil, 2)...)
		isRead(t, b, api.Screen{W: side[0], H: side[1], Tints: tints(2), Clear: -1, Bits: 2})
	}
	for _, side := range [][2]int{{2048, 33}, {33, 2048}, {257, 256}, {256, 257}, {2049, 1}, {1, 2049}} {
		b := append(top(side[0], side[1], 128, tints(2)), place(0, 0, side[0], side[1], 0, nil, 2)...)
		isWrong(t, "sides", b, 13, api.ErrHead)
	}
}

// Each of left, top, width and height that isn't as it must be, alone, in its lower byte and in its higher one.
func TestP17_1Place(t *testing.T) {
	ahead := top(5, 4, 128, tints(2))
	right := [4]int{0, 0, 5, 4}
	for i := range right {
		for _, turn := range []int{1, 2, 128, 256, 0x8000, 0xffff} {
			wrong := right
			wrong[i] ^= turn
			for _, marks := range []byte{0, 64} {
				b := append(slices.Clone(ahead), place(wrong[0], wrong[1], wrong[2], wrong[3], marks, nil, 2)...)
				isWrong(t, "place", b, len(ahead)+10, api.ErrHead)
			}
			b := append(slices.Clone(ahead), place(wrong[0], wrong[1], wrong[2], wrong[3], 128, tints(2), 2)...)
			isWrong(t, "place, with a table", b, len(ahead)+10, api.ErrHead)
			// There is no table, too: that is named behind it.
			b = append(top(5, 4, 0, nil), place(wrong[0], wrong[1], wrong[2], wrong[3], 0, nil, 2)...)
			isWrong(t, "place, no table", b, 13+10, api.ErrHead)
		}
	}
	for _, wrong := range [][4]int{{0, 0, 4, 5}, {5, 4, 0, 0}, {0, 0, 0, 0}, {1, 1, 4, 3}, {0, 0, 4, 3}, {4, 5, 0, 0}} {
		b := append(slices.Clone(ahead), place(wrong[0], wrong[1], wrong[2], wrong[3], 0, nil, 2)...)
		isWrong(t, "place", b, len(ahead)+10, api.ErrHead)
	}
}

// Every bit of the marks, of the screen's and of the picture's.
func TestP17_1Marks(t *testing.T) {
	for v := range 256 {
		marks := byte(v)
		var l []api.Tint
		if marks >= 128 {
			l = tints(2 << (marks & 7))
		}
		s := api.Screen{W: 2, H: 1, Tints: l, Clear: -1, Bits: 3}
		b := append(top(2, 1, marks, l), place(0, 0, 2, 1, 0, nil, 3)...)
		if marks >= 128 {
			isRead(t, b, s)
		} else {
			isWrong(t, "no table", b, 13+10, api.ErrPalette)
		}
		s.Laced = marks&64 != 0
		s.Local = marks >= 128
		b = append(top(2, 1, 0, nil), place(0, 0, 2, 1, marks, l, 3)...)
		if marks >= 128 {
			isRead(t, b, s)
		} else {
			isWrong(t, "no table", b, 13+10, api.ErrPalette)
			s.Tints = tints(4)
			isRead(t, append(top(2, 1, 129, tints(4)), place(0, 0, 2, 1, marks, nil, 3)...), s)
		}
	}
}

// The two bytes behind the screen's marks say nothing.
func TestP17_1SpareBytes(t *testing.T) {
	for v := range 256 {
		ahead, behind := small()
		ahead[11], ahead[12] = byte(v), byte(255-v)
		isRead(t, append(ahead, behind...), smallScreen())
	}
}

func TestP17_1Bits(t *testing.T) {
	for v := range 256 {
		for _, local := range []bool{false, true} {
			b := append(top(3, 2, 128, tints(2)), place(0, 0, 3, 2, 0, nil, byte(v))...)
			if local {
				b = append(top(3, 2, 0, nil), place(0, 0, 3, 2, 128, tints(2), byte(v))...)
			}
			if v < 2 || v > 8 {
				isWrong(t, "bits", b, len(b), api.ErrForm)
				continue
			}
			s := smallScreen()
			s.Bits, s.Local = v, local
			isRead(t, b, s)
		}
	}
}

// Every byte where an extension or the picture may stand: ahead of all, and behind extensions.
func TestP17_1WhatComesNext(t *testing.T) {
	ahead, behind := small()
	for _, parts := range [][]byte{nil, covers(1), append(aside(1), aside(255, []byte{1, 2})...)} {
		for v := range 256 {
			start := append(slices.Clone(ahead), parts...)
			b := slices.Concat(start, []byte{byte(v)}, behind)
			switch v {
			case 33, 44:
				asSlow(t, b)
			case 59:
				isWrong(t, "no picture", b, len(start)+1, api.ErrMissing)
			default:
				isWrong(t, "no part", b, len(start)+1, api.ErrForm)
			}
		}
	}
}

// Each of the first six bytes, by itself: no byte behind it is needed.
func TestP17_1Name(t *testing.T) {
	ahead, behind := small()
	for i := range 6 {
		for v := range 256 {
			b := slices.Concat(ahead, behind)
			if b[i] == byte(v) {
				continue
			}
			b[i] = byte(v)
			isWrong(t, "name", b, i+1, api.ErrForm)
		}
	}
}

// faulty are beginnings, each with one fault, in the order of the bytes that show them.
func faulty() (list [][]byte, ats []int, es []api.Errno) {
	ahead, behind := small()
	add := func(b []byte, at int, e api.Errno) {
		list, ats, es = append(list, b), append(ats, at), append(es, e)
	}
	for i := range 6 {
		b := slices.Concat(ahead, covers(1), behind)
		b[i]++
		add(b, i+1, api.ErrForm)
	}
	for i := range 4 {
		b := slices.Concat(ahead, covers(1), behind)
		b[6+i] = 255
		if i%2 == 0 {
			b[6+i] = 0
		}
		add(b, 13, api.ErrHead)
	}
	n := len(ahead)
	wrong := aside(249, []byte{1, 2, 3})
	add(slices.Concat(ahead, wrong, covers(1), behind), n+len(wrong), api.ErrForm)
	add(slices.Concat(ahead, []byte{0}, behind), n+1, api.ErrForm)
	add(slices.Concat(ahead, []byte{59}, behind), n+1, api.ErrMissing)
	for i := range 8 {
		b := slices.Concat(ahead, behind)
		b[n+1+i] ^= 64
		add(b, n+10, api.ErrHead)
	}
	none := append(top(3, 2, 0, nil), place(0, 0, 3, 2, 0, nil, 2)...)
	add(none, len(none)-1, api.ErrPalette)
	add(append(slices.Clone(ahead), place(0, 0, 3, 2, 0, nil, 9)...), n+11, api.ErrForm)
	return list, ats, es
}

// A fault that stands ahead of the place where the bytes end counts; one behind it isn't seen.
func TestP17_1FaultsAndEnds(t *testing.T) {
	list, ats, es := faulty()
	for i, b := range list {
		isWrong(t, "fault", b, ats[i], es[i])
	}
}

// Of two faults the one of the earliest byte.
func TestP17_1TwoFaults(t *testing.T) {
	n := 13 + 6
	ahead, behind := small()
	// The sides are wrong, and so is all behind them.
	b := slices.Concat(ahead, aside(249), []byte{59}, behind)
	b[6] = 0
	isWrong(t, "sides, extension", b, 13, api.ErrHead)
	b[0] = 0
	isWrong(t, "name, sides", b, 1, api.ErrForm)
	b = slices.Concat(ahead, aside(249), []byte{59}, behind)
	isWrong(t, "extension, no picture", b, n+3, api.ErrForm)
	b = slices.Concat(ahead, []byte{59}, aside(249), behind)
	isWrong(t, "no picture, extension", b, n+1, api.ErrMissing)
	b = slices.Concat(ahead, []byte{60, 59})
	isWrong(t, "no part, no picture", b, n+1, api.ErrForm)
	b = append(slices.Clone(ahead), place(1, 0, 3, 2, 0, nil, 1)...)
	isWrong(t, "place, bits", b, n+10, api.ErrHead)
	b = append(top(3, 2, 0, nil), place(0, 0, 3, 2, 0, nil, 1)...)
	isWrong(t, "table, bits", b, 13+10, api.ErrPalette)
	b = append(top(3, 2, 0, nil), place(0, 1, 3, 2, 64, nil, 1)...)
	isWrong(t, "place, table, bits", b, 13+10, api.ErrHead)
	b = append(top(0, 2, 0, nil), place(0, 0, 3, 2, 64, nil, 1)...)
	isWrong(t, "sides, place, table, bits", b, 13, api.ErrHead)
}

// Every pair of bytes of a beginning changed.
func TestP17_1TwoBytesChanged(t *testing.T) {
	ahead, behind := small()
	met := map[api.Errno]int{}
	for _, right := range [][]byte{
		slices.Concat(ahead, aside(254, []byte{5, 6}), covers(1), behind),
		slices.Concat(top(3, 2, 0, nil), covers(1), aside(1), place(0, 0, 3, 2, 128, tints(2), 2)),
	} {
		for i := range right {
			for j := range i {
				for _, v := range []byte{0, 33, 44, 59, 128, 249} {
					b := slices.Clone(right)
					b[i], b[j] = v, v
					met[asSlow(t, b)]++
					b[j] = right[j] ^ 1
					met[asSlow(t, b)]++
				}
			}
		}
	}
	for _, e := range []api.Errno{api.OK, api.ErrShort, api.ErrForm, api.ErrHead, api.ErrPalette, api.ErrMissing} {
		if met[e] == 0 {
			t.Error("no beginning with", e)
		}
	}
}

// Beginnings by chance, of which bytes are other ones, left out, or put in.
func TestP17_1Spoilt(t *testing.T) {
	rnd := rand.New(rand.NewSource(171))
	met := map[api.Errno]int{}
	for range 20000 {
		b := chance(rnd)
		for range rnd.Intn(3) {
			at := rnd.Intn(len(b))
			switch rnd.Intn(3) {
			case 0:
				b[at] ^= 1 << rnd.Intn(8)
			case 1:
				b = slices.Delete(b, at, at+1)
			case 2:
				b = slices.Insert(b, at, []byte{0, 1, 4, 33, 44, 59, 249, 255}[rnd.Intn(8)])
			}
		}
		met[asSlow(t, b)]++
		met[asSlow(t, b[:rnd.Intn(len(b)+1)])]++
	}
	for _, e := range []api.Errno{api.OK, api.ErrShort, api.ErrForm, api.ErrHead, api.ErrPalette, api.ErrMissing} {
		if met[e] == 0 {
			t.Error("no beginning with", e)
		}
	}
}

// chance is a beginning that is right, nearly always.
func chance(rnd *rand.Rand) []byte {
	w, h := 1+rnd.Intn(300), 1+rnd.Intn(300)
	marks, own := byte(rnd.Intn(256))&0xf3, byte(rnd.Intn(256))&0xf3
	var l, m []api.Tint
	if marks >= 128 {
		l = tints(2 << (marks & 7))
	}
	if own >= 128 {
		m = tints(2 << (own & 7))
	}
	b := top(w, h, marks, l)
	for range rnd.Intn(4) {
		label := []byte{249, 249, 254, 1, 33, byte(rnd.Intn(256))}[rnd.Intn(6)]
		if rnd.Intn(4) > 0 {
			b = append(b, aside(label, []byte{byte(rnd.Intn(4)), 0, 0, byte(rnd.Intn(256))})...)
			continue
		}
		var parts [][]byte
		for range rnd.Intn(3) {
			p := make([]byte, 1+rnd.Intn(6))
			rnd.Read(p)
			parts = append(parts, p)
		}
		b = append(b, aside(label, parts...)...)
	}
	return append(b, place(0, 0, w, h, own, m, byte(2+rnd.Intn(7)))...)
}

// Any bytes, with the name ahead of them, and without.
func TestP17_1AnyBytes(t *testing.T) {
	rnd := rand.New(rand.NewSource(172))
	for range 20000 {
		b := make([]byte, rnd.Intn(60))
		rnd.Read(b)
		asSlow(t, b)
		asSlow(t, append([]byte("GIF89a"), b...))
		if len(b) > 7 {
			few := []byte{0, 1, 2, 3, 4, 33, 33, 44, 59, 249, 249}
			for i := range b {
				b[i] = few[rnd.Intn(len(few))]
			}
			asSlow(t, slices.Concat([]byte("GIF89a"), []byte{3, 0, 2, 0, 0, 0, 0}, b))
		}
	}
}

// Very many extensions, and very long ones: a beginning has no greatest length.
func TestP17_1Long(t *testing.T) {
	ahead, behind := small()
	s := smallScreen()
	long := aside(255, slices.Repeat([][]byte{bytes.Repeat([]byte{7}, 255)}, 8000)...)
	for _, parts := range [][]byte{long, bytes.Repeat(aside(1), 500000), append(bytes.Repeat(covers(3), 200000), aside(249, []byte{0, 0, 0, 0})...)} {
		b := slices.Concat(ahead, parts, behind)
		if got, n, e := Read(append(b, 1, 2, 3)); !same(got, s) || n != len(b) || e != api.OK {
			t.Error(got, n, e)
		}
		if got, n, e := Read(b[:len(b)-1]); !same(got, api.Screen{}) || n != 0 || e != api.ErrShort {
			t.Error(got, n, e)
		}
	}
}

// What is handed in stays as it was, its spare room too, and what is answered shares nothing with it.
func TestP17_1ReadMemory(t *testing.T) {
	ahead, behind := small()
	for _, local := range []bool{false, true} {
		b := slices.Concat(ahead, covers(1), behind, []byte{5, 6, 7})
		want := smallScreen()
		want.Clear = 1
		if local {
			want.Local = true
			b = slices.Concat(top(3, 2, 0, nil), covers(1), place(0, 0, 3, 2, 128, tints(2), 2), []byte{5, 6, 7})
		}
		was := slices.Clone(b)
		one, _, _ := Read(b[:len(b)-3])
		other, _, _ := Read(b[:len(b)-3])
		if !bytes.Equal(b, was) {
			t.Error(b, was)
		}
		clear(b)
		if !same(one, want) {
			t.Error(one)
		}
		clear(one.Tints[:cap(one.Tints)])
		if !same(other, want) {
			t.Error(other)
		}
		if !bytes.Equal(b, make([]byte, len(b))) {
			t.Error("the answer shares memory with what was handed in")
		}
	}
}
