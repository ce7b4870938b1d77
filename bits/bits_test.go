package bits

import (
	"bytes"
	"math"
	"math/rand"
	"slices"
	"testing"
)

// row is the bits of bytes, told by division alone: the readers are held against it.
func row(b []byte) []int {
	var out []int
	for _, x := range b {
		for range 8 {
			out = append(out, int(x)%2)
			x /= 2
		}
	}
	return out
}

// number is that of bits, the first one its lowest.
func number(row []int) int {
	v := 0
	for i := len(row) - 1; i >= 0; i-- {
		v = 2*v + row[i]
	}
	return v
}

func reader(b ...byte) *Reader {
	r := New()
	r.Feed(b)
	return r
}

func some(rnd *rand.Rand, n int) []byte {
	b := make([]byte, n)
	rnd.Read(b)
	return b
}

// has holds all that a reader has against a row of bits, without taking any.
func has(t *testing.T, r *Reader, want []int) {
	t.Helper()
	if r.Have() != len(want) {
		t.Fatalf("Have %d, not %d", r.Have(), len(want))
	}
	for i, bit := range want {
		if r.Look(i) != bit {
			t.Fatalf("Look(%d) %d, not %d", i, r.Look(i), bit)
		}
	}
	for _, i := range []int{len(want), len(want) + 1, len(want) + 8, math.MaxInt, math.MaxInt - 7, -1, -8, math.MinInt} {
		if r.Look(i) != -1 {
			t.Fatalf("Look(%d) %d of %d bits", i, r.Look(i), len(want))
		}
	}
}

func TestP1_1Examples(t *testing.T) {
	r := reader(6)
	if r.Look(0) != 0 || r.Look(1) != 1 {
		t.Error(r.Look(0), r.Look(1))
	}
	if v, ok := r.Take(3); v != 6 || !ok {
		t.Error(v, ok)
	}
	if n := r.Align(); n != 5 {
		t.Error(n)
	}
	w := NewWriter()
	w.Put(5, 3)
	w.Put(1, 1)
	if !bytes.Equal(w.Out(), []byte{13}) || w.Len() != 4 {
		t.Error(w.Out(), w.Len())
	}
}

func TestP1_1EmptyReader(t *testing.T) {
	for name, r := range map[string]*Reader{"new": New(), "zero": {}, "fed with nothing": reader()} {
		has(t, r, nil)
		if v, ok := r.Take(0); v != 0 || !ok {
			t.Error(name, "Take(0)", v, ok)
		}
		if v, ok := r.Take(1); v != 0 || ok {
			t.Error(name, "Take(1)", v, ok)
		}
		if n := r.Align(); n != 0 {
			t.Error(name, "Align", n)
		}
		if b := r.Bytes(1); len(b) != 0 {
			t.Error(name, "Bytes", b)
		}
		r.Feed(nil)
		r.Feed([]byte{1})
		has(t, r, row([]byte{1}))
	}
}

func TestP1_1NilReader(t *testing.T) {
	var r *Reader
	r.Feed([]byte{1, 2, 3})
	if r.Have() != 0 || r.Align() != 0 {
		t.Error(r.Have(), r.Align())
	}
	for _, i := range []int{math.MinInt, -1, 0, 1, 9, math.MaxInt} {
		if r.Look(i) != -1 {
			t.Error("Look", i, r.Look(i))
		}
		if v, ok := r.Take(i); v != 0 || ok {
			t.Error("Take", i, v, ok)
		}
		if b := r.Bytes(i); len(b) != 0 {
			t.Error("Bytes", i, b)
		}
	}
}

func TestP1_1NilWriter(t *testing.T) {
	var w *Writer
	w.Put(1, 1)
	w.Align()
	if w.Len() != 0 || len(w.Out()) != 0 {
		t.Error(w.Len(), w.Out())
	}
}

func TestP1_1EmptyWriter(t *testing.T) {
	for name, w := range map[string]*Writer{"new": NewWriter(), "zero": {}} {
		w.Align()
		w.Put(7, 0)
		w.Put(-1, -1)
		if w.Len() != 0 || len(w.Out()) != 0 {
			t.Error(name, w.Len(), w.Out())
		}
	}
}

// Of every n, from every place of a byte, a number is taken if it may be, and nothing is gone if not.
func TestP1_1Take(t *testing.T) {
	b := []byte{0x6b, 0xff, 0x00, 0xa5, 0x91, 0x3c}
	all := row(b)
	for ahead := range 17 {
		for _, n := range []int{math.MinInt, -32, -1, 33, 34, 40, 64, math.MaxInt} {
			r := reader(b...)
			r.Take(ahead)
			if v, ok := r.Take(n); v != 0 || ok {
				t.Fatal(ahead, n, v, ok)
			}
			has(t, r, all[ahead:])
		}
		for n := range 33 {
			r := reader(b...)
			r.Take(ahead)
			if v, ok := r.Take(n); !ok || v != number(all[ahead:ahead+n]) {
				t.Fatal(ahead, n, v, ok)
			}
			has(t, r, all[ahead+n:])
		}
	}
}

func TestP1_1TakeFewer(t *testing.T) {
	b := []byte{0xff, 0xff, 0xff}
	for ahead := range 25 {
		left := 24 - ahead
		r := reader(b...)
		r.Take(ahead)
		for n := left + 1; n <= 32; n++ {
			if v, ok := r.Take(n); v != 0 || ok {
				t.Fatal(ahead, n, v, ok)
			}
		}
		has(t, r, row(b)[ahead:])
		if v, ok := r.Take(left); !ok || v != 1<<left-1 {
			t.Fatal(ahead, left, v, ok)
		}
	}
}

func TestP1_1TakeGreatest(t *testing.T) {
	if v, ok := reader(255, 255, 255, 255).Take(32); v != math.MaxUint32 || !ok {
		t.Error(v, ok)
	}
}

func TestP1_1Align(t *testing.T) {
	b := []byte{0xb7, 0x1d}
	for ahead := range 17 {
		r := reader(b...)
		r.Take(ahead)
		want := (8 - ahead%8) % 8
		if n := r.Align(); n != want {
			t.Fatal(ahead, n)
		}
		has(t, r, row(b)[ahead+want:])
		if n := r.Align(); n != 0 {
			t.Fatal(ahead, "twice", n)
		}
	}
}

// Bytes' beginnings are counted from the first byte that was ever fed, whatever came in between.
func TestP1_1AlignBehindLaterFeeds(t *testing.T) {
	r := reader(1)
	r.Take(8)
	r.Feed([]byte{2, 3})
	if n := r.Align(); n != 0 {
		t.Error(n)
	}
	r.Take(3)
	r.Feed([]byte{4})
	if n := r.Align(); n != 5 {
		t.Error(n)
	}
	has(t, r, row([]byte{3, 4}))
}

func TestP1_1Bytes(t *testing.T) {
	b := []byte{9, 8, 7}
	for _, c := range []struct{ n, want int }{
		{math.MinInt, 0}, {-1, 0}, {0, 0}, {1, 1}, {2, 2}, {3, 3}, {4, 3}, {math.MaxInt, 3},
	} {
		r := reader(b...)
		if got := r.Bytes(c.n); !bytes.Equal(got, b[:c.want]) {
			t.Error(c.n, got)
		}
		has(t, r, row(b[c.want:]))
	}
}

func TestP1_1BytesWithinAByte(t *testing.T) {
	b := []byte{9, 8, 7}
	for ahead := range 25 {
		r := reader(b...)
		r.Take(ahead)
		want, gone := []byte(nil), ahead
		if ahead%8 == 0 {
			want, gone = b[ahead/8:], 24
		}
		if got := r.Bytes(3); !bytes.Equal(got, want) {
			t.Fatal(ahead, got)
		}
		has(t, r, row(b)[gone:])
	}
}

func TestP1_1Put(t *testing.T) {
	for _, v := range []int{0, 1, 5, 0x6b91, math.MaxUint32, 1 << 32, math.MaxInt, -1, -6, math.MinInt, 0x5a5a5a5a5a} {
		low := row([]byte{byte(v), byte(v >> 8), byte(v >> 16), byte(v >> 24)})
		for _, n := range []int{math.MinInt, -1, 0, 1, 2, 7, 8, 9, 15, 16, 17, 31, 32, 33, 64, math.MaxInt} {
			for ahead := range 9 {
				w := NewWriter()
				w.Put(0x155, ahead)
				w.Put(v, n)
				want := slices.Concat([]int{1, 0, 1, 0, 1, 0, 1, 0, 1}[:ahead], low[:max(0, min(n, 32))])
				wrote(t, w, want)
			}
		}
	}
}

// wrote holds what a writer has against a row of bits: noughts fill the last byte up.
func wrote(t *testing.T, w *Writer, want []int) {
	t.Helper()
	if w.Len() != len(want) {
		t.Fatalf("Len %d, not %d", w.Len(), len(want))
	}
	for len(want)%8 != 0 {
		want = append(want, 0)
	}
	if !slices.Equal(row(w.Out()), want) {
		t.Fatalf("Out %v, not %v", row(w.Out()), want)
	}
}

func TestP1_1WriterAlign(t *testing.T) {
	for n := range 33 {
		w := NewWriter()
		w.Put(-1, n)
		before := w.Out()
		w.Align()
		full := (n + 7) / 8 * 8
		if w.Len() != full || !bytes.Equal(w.Out(), before) {
			t.Fatal(n, w.Len(), w.Out())
		}
		w.Align()
		w.Put(3, 2)
		if w.Len() != full+2 || !bytes.Equal(w.Out(), append(before, 3)) {
			t.Fatal(n, w.Len(), w.Out())
		}
	}
}

func TestP1_1OutLeavesTheWriter(t *testing.T) {
	w := NewWriter()
	w.Put(1, 3)
	w.Out()
	if w.Len() != 3 {
		t.Error(w.Len())
	}
	w.Put(1, 3)
	if w.Len() != 6 || !bytes.Equal(w.Out(), []byte{9}) {
		t.Error(w.Len(), w.Out())
	}
}

// What is handed in is neither changed nor kept, its spare room neither; what is answered is new.
func TestP1_1Memory(t *testing.T) {
	room := []byte{1, 2, 3, 4}
	in := room[:2]
	r := New()
	r.Feed(in)
	r.Feed([]byte{5})
	in[0] = 99
	if !bytes.Equal(room, []byte{99, 2, 3, 4}) {
		t.Error("changed what was handed in", room)
	}
	got := r.Bytes(1)
	if !bytes.Equal(got, []byte{1}) {
		t.Error("kept what was handed in", got)
	}
	_ = append(got, 77, 77)
	if rest := r.Bytes(2); !bytes.Equal(rest, []byte{2, 5}) {
		t.Error("answered memory of its own", rest)
	}
	w := NewWriter()
	w.Put(1, 4)
	out := w.Out()
	out[0] = 99
	_ = append(out, 77)
	w.Put(1, 8)
	if !bytes.Equal(w.Out(), []byte{17, 0}) {
		t.Error("answered memory of its own", w.Out())
	}
}

func TestP1_1ObjectsOfTheirOwn(t *testing.T) {
	a, b := New(), New()
	a.Feed([]byte{1})
	if b.Have() != 0 || a.Have() != 8 {
		t.Error(a.Have(), b.Have())
	}
	v, w := NewWriter(), NewWriter()
	v.Put(1, 1)
	if w.Len() != 0 || v.Len() != 1 {
		t.Error(v.Len(), w.Len())
	}
}

// What is put is taken as it was: numbers of all sizes, with bytes' ends in between.
func TestP1_2(t *testing.T) {
	rnd := rand.New(rand.NewSource(12))
	for range 300 {
		w := NewWriter()
		var puts [][2]int
		for range 40 {
			p := [2]int{int(rnd.Uint64()), rnd.Intn(33)}
			if rnd.Intn(6) == 0 {
				p[1] = -1
			}
			puts = append(puts, p)
			if p[1] < 0 {
				w.Align()
			} else {
				w.Put(p[0], p[1])
			}
		}
		r := reader(w.Out()...)
		for i, p := range puts {
			if p[1] < 0 {
				r.Align()
			} else if v, ok := r.Take(p[1]); !ok || v != p[0]&(1<<p[1]-1) {
				t.Fatal(i, p, v, ok)
			}
		}
		if r.Have() > 7 {
			t.Fatal(r.Have(), "bits are left")
		}
	}
}

// step does one call at random, the same on both readers, and holds their answers against one another.
func step(t *testing.T, rnd *rand.Rand, whole, cut *Reader) {
	t.Helper()
	switch n := rnd.Intn(40) - 3; rnd.Intn(4) {
	case 0:
		if a, b := whole.Align(), cut.Align(); a != b {
			t.Fatal("Align", a, b)
		}
	case 1:
		if a, b := whole.Bytes(n/8), cut.Bytes(n/8); !bytes.Equal(a, b) {
			t.Fatal("Bytes", n/8, a, b)
		}
	default:
		a, had := whole.Take(n)
		if b, has := cut.Take(n); a != b || had != has {
			t.Fatal("Take", n, a, had, b, has)
		}
	}
}

// However bytes are cut when they are fed, the same bits come: every way to cut eight bytes.
func TestP1_3EveryCut(t *testing.T) {
	rnd := rand.New(rand.NewSource(13))
	for mask := range 128 {
		b := some(rnd, 8)
		cut := New()
		from := 0
		for i := range 8 {
			if i == 7 || mask>>i&1 == 1 {
				cut.Feed(b[from : i+1])
				from = i + 1
			}
		}
		has(t, cut, row(b))
		whole := reader(b...)
		for whole.Have() > 0 {
			step(t, rnd, whole, cut)
			has(t, cut, row(b)[64-whole.Have():])
		}
	}
}

// Bytes may be fed between the takings, too: the bits are still those of the whole.
func TestP1_3FedBetween(t *testing.T) {
	rnd := rand.New(rand.NewSource(14))
	for range 300 {
		b := some(rnd, 60)
		all := row(b)
		r := New()
		at, fed := 0, 0
		for at < len(all) {
			more := min(rnd.Intn(5), len(b)-fed)
			r.Feed(b[fed : fed+more])
			fed += more
			n := rnd.Intn(33)
			v, ok := r.Take(n)
			if ok != (n <= 8*fed-at) {
				t.Fatal(at, fed, n, ok)
			}
			if ok && v != number(all[at:at+n]) {
				t.Fatal(at, n, v)
			}
			if ok {
				at += n
			}
			has(t, r, all[at:8*fed])
		}
	}
}
