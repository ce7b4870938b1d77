package png

import (
	"bytes"
	"math/rand"
	"slices"
	"testing"

	"halftone/api"
	"halftone/pixel"
)

func TestP16_1Examples(t *testing.T) {
	if l, e := New().Push([]byte{137}); len(l) != 0 || e != api.OK {
		t.Error(l, e)
	}
	if l, e := New().Push([]byte{138}); len(l) != 0 || e != api.ErrForm {
		t.Error(l, e)
	}
	if r, e := Read(nil); !sameRaster(r, api.Raster{}) || e != api.ErrShort {
		t.Error(r, e)
	}
}

// One grey pixel, byte by byte: its line comes with the last byte of its text.
func TestP16_1OnePixel(t *testing.T) {
	b := file(ihdr(api.Head{W: 1, H: 1, Depth: 8}), part("IDAT", wrap([]byte{1, 2, 0, 253, 255, 0, 255}, []byte{0, 255})...), iend)
	full := api.Color{R: 65535, G: 65535, B: 65535, A: 65535}
	want := api.Line{Pass: 1, Spots: []api.Spot{{}}, Cols: []api.Color{full}}
	shows := 8 + 25 + 8 + 9 - 1 // the eight, IHDR, size and kind, the packed bytes up to 255
	d := New()
	for i, v := range b {
		l, e := d.Push([]byte{v})
		if e != api.OK || (i == shows) != (len(l) == 1) || len(l) == 1 && !sameLine(l[0], want) {
			t.Fatal(i, l, e)
		}
		h, ok := d.Head()
		if ok != (i >= 8+25-1) || ok != (h == api.Head{W: 1, H: 1, Depth: 8}) {
			t.Fatal(i, h, ok)
		}
		if d.Done() != (i == len(b)-1) || d.Told() == 1 != (i >= shows) {
			t.Fatal(i, d.Done(), d.Told())
		}
	}
	if r, e := Read(b); !sameRaster(r, grey(1, 1, 255)) || e != api.OK {
		t.Error(r, e)
	}
	asSlow(t, b)
}

func TestP16_1NilDecoder(t *testing.T) {
	var d *Decoder
	for _, b := range [][]byte{nil, {}, {137}, {138}, whole(t, grey(1, 1, 7))} {
		if l, e := d.Push(b); len(l) != 0 || e != api.ErrArg {
			t.Error(l, e)
		}
	}
	if h, ok := d.Head(); h != (api.Head{}) || ok {
		t.Error(h, ok)
	}
	if d.Done() || d.Told() != 0 {
		t.Error(d.Done(), d.Told())
	}
	// One that nobody made reads nothing, but doesn't panic.
	var none Decoder
	none.Push(whole(t, grey(1, 1, 7)))
	none.Head()
	if none.Done() || none.Told() != 0 {
		t.Error(none.Done(), none.Told())
	}
}

func TestP16_1NewDecoder(t *testing.T) {
	d := New()
	if h, ok := d.Head(); h != (api.Head{}) || ok || d.Done() || d.Told() != 0 {
		t.Error(h, ok, d.Done(), d.Told())
	}
	for range 3 {
		if l, e := d.Push(nil); len(l) != 0 || e != api.OK {
			t.Error(l, e)
		}
	}
}

// ways are how the data of a picture may be packed.
func ways(t *testing.T, b []byte) [][]byte {
	return [][]byte{pack(t, b, 0), pack(t, b, 1), pack(t, b, 2), pack(t, b, 3), stored(b, 7, true)}
}

// Every kind of colours with every depth, laced and not, with each filter, packed each way.
func TestP16_1EveryKind(t *testing.T) {
	rnd := rand.New(rand.NewSource(161))
	sides := [][2]int{{1, 1}, {1, 9}, {9, 1}, {2, 2}, {5, 3}, {8, 8}, {13, 11}}
	for _, k := range kinds {
		for _, side := range sides {
			for _, laced := range []bool{false, true} {
				r := some(rnd, api.Head{W: side[0], H: side[1], Color: k[0], Depth: k[1], Laced: laced})
				for kind := range 6 {
					filters := inTurn
					if kind < 5 {
						filters = always(kind)
					}
					b := text(t, r, filters)
					packed := ways(t, b)[rnd.Intn(5)]
					f := slices.Concat(front(r), idats(packed, 1+rnd.Intn(len(packed))), iend)
					isRaster(t, f, r)
				}
			}
		}
	}
}

// isRaster holds that a file is read as a raster, by all calls.
func isRaster(t *testing.T, b []byte, r api.Raster) {
	t.Helper()
	got, e := Read(b)
	if !sameRaster(got, r) || e != api.OK {
		t.Fatal(r.Head, got, e, "not", r)
	}
	d := New()
	l, e := d.Push(b)
	if e != api.OK || !d.Done() || d.Told() != len(l) {
		t.Fatal(r.Head, e, d.Done(), d.Told(), len(l))
	}
	if h, ok := d.Head(); h != r.Head || !ok {
		t.Fatal(h, ok)
	}
	isPicture(t, l, r)
	asSlow(t, b, by(b, 1+len(b)/3)...)
}

// isPicture holds that lines are all those of a raster, in their order, in its colours.
func isPicture(t *testing.T, l []api.Line, r api.Raster) {
	t.Helper()
	m, e := pixel.Image(r)
	if e != api.OK {
		t.Fatal(e)
	}
	want := slowLines(r.Head)
	for i := range want {
		for _, s := range want[i].Spots {
			want[i].Cols = append(want[i].Cols, m.Pix[s.Y*m.W+s.X])
		}
	}
	if !slices.EqualFunc(l, want, sameLine) {
		t.Fatal(r.Head, brief(l), "not", brief(want))
	}
}

// Each way to pack, with each size of IDATs.
func TestP16_1EverySizeOfIDAT(t *testing.T) {
	rnd := rand.New(rand.NewSource(162))
	r := some(rnd, api.Head{W: 5, H: 4, Color: 3, Depth: 4, Laced: true})
	for _, packed := range ways(t, text(t, r, inTurn)) {
		for size := 1; size <= len(packed); size++ {
			isRaster(t, slices.Concat(front(r), idats(packed, size), iend), r)
		}
	}
}

// IDATs of no data, ahead of the others, between them, and behind the packed bytes' end.
func TestP16_1EmptyIDATs(t *testing.T) {
	r := grey(2, 2, 1, 2, 3, 4)
	packed := pack(t, text(t, r, inTurn), 1)
	none := part("IDAT")
	for at := range len(packed) + 1 {
		isRaster(t, slices.Concat(front(r), none, none, part("IDAT", packed[:at]...), none, part("IDAT", packed[at:]...), none, none, iend), r)
	}
}

// Chunks that say nothing, wherever they may stand.
func TestP16_1OtherChunks(t *testing.T) {
	rnd := rand.New(rand.NewSource(163))
	other := func() []byte {
		kind := []string{"tEXt", "bKGD", "zzzz", "aAAA", "iDAT", "pLTE", "iHDR", "iEND"}[rnd.Intn(8)]
		b := make([]byte, rnd.Intn(1000))
		rnd.Read(b)
		return part(kind, b...)
	}
	for range 30 {
		h := api.Head{W: 3, H: 3, Color: 3, Depth: 2}
		r := some(rnd, h)
		r.Alpha = numbers(rnd, 1, 256)
		data := part("IDAT", pack(t, text(t, r, inTurn), 3)...)
		b := file(ihdr(h), other(), plte(r.Tints), other(), other(), trns(r), other(), data, other(), other(), iend)
		isRaster(t, b, r)
	}
}

// Kinds 2 and 6 may have a table, which says nothing.
func TestP16_1TableOfFull(t *testing.T) {
	rnd := rand.New(rand.NewSource(164))
	for _, color := range []int{2, 6} {
		for _, depth := range []int{8, 16} {
			for _, n := range []int{1, 2, 17, 256} {
				r := some(rnd, api.Head{W: 3, H: 2, Color: color, Depth: depth})
				data := part("IDAT", pack(t, text(t, r, inTurn), 3)...)
				parts := [][]byte{ihdr(r.Head), plte(tints(n)), data, iend}
				if len(r.Clear) > 0 {
					parts = slices.Insert(parts, 1+rnd.Intn(2), trns(r))
				}
				isRaster(t, file(parts...), r)
			}
		}
	}
}

// Of kind 3 not all that a depth has need be in the table, and not all of the table need have a cover.
func TestP16_1Tables(t *testing.T) {
	for _, depth := range []int{1, 2, 4, 8} {
		for n := 1; n <= 1<<depth; n++ {
			r := api.Raster{Head: api.Head{W: 2, H: 1, Color: 3, Depth: depth}, Tints: tints(n), Samples: []int{0, n - 1}}
			b := text(t, r, always(0))
			isRaster(t, slices.Concat(front(r), part("IDAT", pack(t, b, 0)...), iend), r)
			for _, k := range []int{1, n} {
				r.Alpha = slices.Repeat([]int{9}, k)
				isRaster(t, slices.Concat(front(r), part("IDAT", pack(t, b, 0)...), iend), r)
			}
		}
	}
}

// Bits behind a row's last sample say nothing.
func TestP16_1BitsBehind(t *testing.T) {
	for _, depth := range []int{1, 2, 4} {
		r := api.Raster{Head: api.Head{W: 1, H: 2, Color: 3, Depth: depth}, Tints: tints(1), Samples: []int{0, 0}}
		b := []byte{0, 255 >> depth, 0, 255 >> depth}
		isRaster(t, slices.Concat(front(r), part("IDAT", pack(t, b, 0)...), iend), r)
	}
}

// The greatest pictures that there are.
func TestP16_1Greatest(t *testing.T) {
	rnd := rand.New(rand.NewSource(165))
	for i, side := range [][2]int{{2048, 32}, {32, 2048}, {256, 256}, {2048, 1}, {1, 2048}} {
		r := some(rnd, api.Head{W: side[0], H: side[1], Color: 6, Depth: 16, Laced: i%2 == 0})
		b := text(t, r, always(i%5))
		f := slices.Concat(front(r), idats(stored(b, 65535, false), 8192), iend)
		got, e := Read(f)
		if !sameRaster(got, r) || e != api.OK {
			t.Fatal(r.Head, e)
		}
		var l []api.Line
		d := New()
		for part := range slices.Chunk(f, 1000) {
			more, e := d.Push(part)
			if e != api.OK {
				t.Fatal(e)
			}
			l = append(l, more...)
		}
		isPicture(t, l, r)
	}
}

// Each beginning of a file is short; with a byte behind its end there is too much.
func TestP16_1Beginnings(t *testing.T) {
	rnd := rand.New(rand.NewSource(166))
	for _, k := range [][2]int{{0, 1}, {2, 8}, {3, 4}, {6, 16}} {
		r := some(rnd, api.Head{W: 5, H: 5, Color: k[0], Depth: k[1], Laced: true})
		b := whole(t, r)
		for n := range b {
			if got, e := Read(b[:n]); !sameRaster(got, api.Raster{}) || e != api.ErrShort {
				t.Fatal(n, got, e)
			}
		}
		isRaster(t, b, r)
		for v := range 256 {
			if got, e := Read(append(slices.Clone(b), byte(v))); !sameRaster(got, api.Raster{}) || e != api.ErrTrail {
				t.Fatal(v, got, e)
			}
		}
	}
}

// The first 30 bytes tell no line, those of all IDATs all of them.
func TestP16_1FirstAndLastLine(t *testing.T) {
	r := some(rand.New(rand.NewSource(167)), api.Head{W: 8, H: 8, Color: 2, Depth: 8, Laced: true})
	b := whole(t, r)
	d := New()
	if l, e := d.Push(b[:30]); len(l) != 0 || e != api.OK {
		t.Fatal(l, e)
	}
	l, e := d.Push(b[30 : len(b)-len(iend)])
	if e != api.OK || d.Done() {
		t.Fatal(e, d.Done())
	}
	isPicture(t, l, r)
	if l, e := d.Push(iend); len(l) != 0 || e != api.OK || !d.Done() || d.Told() != 15 {
		t.Fatal(l, e, d.Done(), d.Told())
	}
}

// A line comes with the byte that makes it whole: of stored bytes each one tells itself.
func TestP16_1EachLineAtItsByte(t *testing.T) {
	for _, laced := range []bool{false, true} {
		r := some(rand.New(rand.NewSource(168)), api.Head{W: 6, H: 5, Color: 4, Depth: 8, Laced: laced})
		b := text(t, r, inTurn)
		f := slices.Concat(front(r), part("IDAT", stored(b, 10000, false)...), iend)
		at := len(front(r)) + 8 + 2 + 5 // ahead of it: size and kind, the wrapping's head, the block's
		d := New()
		if l, e := d.Push(f[:at]); len(l) != 0 || e != api.OK {
			t.Fatal(l, e)
		}
		for i, want := range slowLines(r.Head) {
			n := slowSize(r.Head, len(want.Spots))
			if l, e := d.Push(f[at : at+n-1]); len(l) != 0 || e != api.OK || d.Told() != i {
				t.Fatal(i, l, e)
			}
			at += n
			l, e := d.Push(f[at-1 : at])
			if len(l) != 1 || e != api.OK || l[0].Pass != want.Pass || !slices.Equal(l[0].Spots, want.Spots) || d.Told() != i+1 {
				t.Fatal(i, l, e)
			}
		}
	}
}

// What is handed in stays as it was, and so does what was told; no two answers share memory.
func TestP16_1Memory(t *testing.T) {
	rnd := rand.New(rand.NewSource(169))
	for _, k := range kinds {
		r := some(rnd, api.Head{W: 7, H: 6, Color: k[0], Depth: k[1], Laced: true})
		b := whole(t, r)
		d := New()
		var told, kept []api.Line
		for from := 0; from < len(b); from += 5 {
			in := append(slices.Clone(b[from:min(from+5, len(b))]), 1, 2, 3)
			was := slices.Clone(in)
			l, e := d.Push(in[:len(in)-3])
			if e != api.OK || !bytes.Equal(in, was) {
				t.Fatal(e, in, was)
			}
			// What is written over in what was handed in isn't seen any more.
			clear(in)
			told = append(told, l...)
			kept = append(kept, deep(l)...)
		}
		if !slices.EqualFunc(told, kept, sameLine) {
			t.Fatal("lines that were told have changed")
		}
		apart(t, told, kept)
		spoil(told)
		// The decoder's own memory wasn't handed out, and Read's answer is another one each time.
		first, _ := Read(b)
		second, _ := Read(b)
		if !sameRaster(first, r) {
			t.Fatal(first)
		}
		clear(first.Samples)
		clear(first.Tints)
		clear(first.Alpha)
		clear(first.Clear)
		if !sameRaster(second, r) {
			t.Fatal(second)
		}
	}
}

// apart writes to the lists of one line after the other: those of all others, their spare room too, must stay as they are.
func apart(t *testing.T, told, kept []api.Line) {
	t.Helper()
	for i := range told {
		spots := told[i].Spots[:cap(told[i].Spots)]
		cols := told[i].Cols[:cap(told[i].Cols)]
		for j := range spots {
			spots[j] = api.Spot{X: -9, Y: -9}
		}
		for j := range cols {
			cols[j] = api.Color{R: 1, G: 2, B: 3, A: 4}
		}
		if !slices.EqualFunc(told[i+1:], kept[i+1:], sameLine) {
			t.Fatal("lines share memory", i)
		}
	}
}

// Lines that are written over don't change those that are told later.
func TestP16_1LinesWrittenOver(t *testing.T) {
	rnd := rand.New(rand.NewSource(170))
	for _, k := range kinds {
		r := some(rnd, api.Head{W: 7, H: 6, Color: k[0], Depth: k[1], Laced: true})
		b := whole(t, r)
		d := New()
		var kept []api.Line
		for i := range b {
			l, e := d.Push(b[i : i+1])
			if e != api.OK {
				t.Fatal(e)
			}
			kept = append(kept, deep(l)...)
			spoil(l)
		}
		isPicture(t, kept, r)
	}
}

// deep is lines in memory of their own.
func deep(l []api.Line) (out []api.Line) {
	for _, x := range l {
		out = append(out, api.Line{Pass: x.Pass, Spots: slices.Clone(x.Spots), Cols: slices.Clone(x.Cols)})
	}
	return out
}

// spoil writes over lines.
func spoil(l []api.Line) {
	for i := range l {
		clear(l[i].Spots)
		clear(l[i].Cols)
		l[i].Pass = 99
	}
}

// Decoders of their own don't depend on one another.
func TestP16_1TwoDecoders(t *testing.T) {
	rnd := rand.New(rand.NewSource(171))
	one := some(rnd, api.Head{W: 5, H: 6, Color: 3, Depth: 4, Laced: true})
	other := some(rnd, api.Head{W: 6, H: 5, Color: 2, Depth: 8})
	a, b := whole(t, one), whole(t, other)
	d, o := New(), New()
	var l, m []api.Line
	for i := range max(len(a), len(b)) {
		if i < len(a) {
			more, _ := d.Push(a[i : i+1])
			l = append(l, more...)
		}
		if i < len(b) {
			more, _ := o.Push(b[i : i+1])
			m = append(m, more...)
		}
	}
	isPicture(t, l, one)
	isPicture(t, m, other)
}
