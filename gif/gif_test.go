package gif

import (
	"bytes"
	"math/rand"
	"slices"
	"testing"

	"halftone/api"
	"halftone/pixel"
)

func TestP18_1Examples(t *testing.T) {
	d := New()
	if l, e := d.Push([]byte{71}); len(l) != 0 || e != api.OK {
		t.Error(l, e)
	}
	if l, e := d.Push([]byte{72}); len(l) != 0 || e != api.ErrForm {
		t.Error(l, e)
	}
	if r, e := Read(nil); !sameRaster(r, api.Raster{}) || e != api.ErrShort {
		t.Error(r, e)
	}
}

// One pixel, byte by byte: its line comes with the first byte of the codes, which has clear and 0.
func TestP18_1OnePixel(t *testing.T) {
	b := []byte{71, 73, 70, 56, 57, 97, 1, 0, 1, 0, 240, 0, 0, 9, 8, 7, 0, 0, 0, 44, 0, 0, 0, 0, 1, 0, 1, 0, 0, 2, 2, 68, 1, 0, 59}
	begun, shows := 30, 32
	want := api.Line{Pass: 1, Spots: []api.Spot{{}}, Cols: []api.Color{{R: 9 * 257, G: 8 * 257, B: 7 * 257, A: 65535}}}
	d := New()
	for i, v := range b {
		l, e := d.Push([]byte{v})
		if e != api.OK || (i+1 == shows) != (len(l) == 1) || len(l) == 1 && !sameLine(l[0], want) {
			t.Fatal(i, l, e)
		}
		h, ok := d.Head()
		if ok != (i+1 >= begun) || ok != (h == api.Head{W: 1, H: 1, Color: 3, Depth: 8}) {
			t.Fatal(i, h, ok)
		}
		if d.Done() != (i == len(b)-1) || d.Told() == 1 != (i+1 >= shows) {
			t.Fatal(i, d.Done(), d.Told())
		}
	}
	r := api.Raster{Head: api.Head{W: 1, H: 1, Color: 3, Depth: 8}, Tints: []api.Tint{{R: 9, G: 8, B: 7}, {}}, Samples: []int{0}}
	if got, e := Read(b); !sameRaster(got, r) || e != api.OK {
		t.Error(got, e)
	}
	asSlow(t, b)
}

func TestP18_1NilDecoder(t *testing.T) {
	var d *Decoder
	for _, b := range [][]byte{nil, {}, {71}, {72}, plain(1, 1, 3).file(t)} {
		if l, e := d.Push(b); len(l) != 0 || e != api.ErrArg {
			t.Error(l, e)
		}
	}
	if h, ok := d.Head(); h != (api.Head{}) || ok {
		t.Error(h, ok)
	}
	if d.Done() || d.Told() != 0 {
		t.Error(d.Done(), d.Told())
	}
}

// Push of nothing, wherever it comes, tells nothing and changes nothing.
func TestP18_1PushOfNothing(t *testing.T) {
	m := plain(2, 2, 0, 1, 2, 3)
	b := m.file(t)
	d := New()
	var l []api.Line
	for i := range b {
		for _, none := range [][]byte{nil, {}, b[i:i]} {
			if more, e := d.Push(none); len(more) != 0 || e != api.OK {
				t.Fatal(i, more, e)
			}
		}
		more, e := d.Push(b[i : i+1])
		if e != api.OK {
			t.Fatal(i, e)
		}
		l = append(l, more...)
	}
	isPicture(t, l, m.raster())
	if more, e := d.Push(nil); len(more) != 0 || e != api.OK || !d.Done() {
		t.Error(more, e, d.Done())
	}
	if more, e := d.Push([]byte{0}); len(more) != 0 || e != api.ErrTrail {
		t.Error(more, e)
	}
	if more, e := d.Push(nil); len(more) != 0 || e != api.ErrTrail {
		t.Error(more, e)
	}
}

// isRaster holds that a file is read as it was made, by all calls.
func isRaster(t *testing.T, m made) {
	t.Helper()
	b, r := m.file(t), m.raster()
	got, e := Read(b)
	if !sameRaster(got, r) || e != api.OK {
		t.Fatal(r.Head, got, e, "not", r)
	}
	d := New()
	l, e := d.Push(b)
	if e != api.OK || !d.Done() || d.Told() != len(l) {
		t.Fatal(r.Head, e, d.Done(), d.Told(), len(l))
	}
	if h, ok := d.Head(); h != r.Head || !ok {
		t.Fatal(h, ok)
	}
	isPicture(t, l, r)
	asSlow(t, b, by(b, 1+len(b)/3)...)
}

// isPicture holds that lines are all those of a raster, in their order, in its colours.
func isPicture(t *testing.T, l []api.Line, r api.Raster) {
	t.Helper()
	m, e := pixel.Image(r)
	if e != api.OK {
		t.Fatal(e)
	}
	want := slowLines(r.Head)
	for i := range want {
		for _, s := range want[i].Spots {
			want[i].Cols = append(want[i].Cols, m.Pix[s.Y*m.W+s.X])
		}
	}
	if !slices.EqualFunc(l, want, sameLine) {
		t.Fatal(r.Head, brief(l), "not", brief(want))
	}
}

// Every number of tints with every least number of bits, laced and not, with a colour that covers nothing that there is, one that there isn't, and none.
func TestP18_1EveryKind(t *testing.T) {
	rnd := rand.New(rand.NewSource(181))
	for k := range 8 {
		n := 2 << k
		for least := 2; least <= 8; least++ {
			for _, laced := range []bool{false, true} {
				for _, none := range []int{-1, 0, n / 2, n - 1, n, 255} {
					if none > 255 {
						continue
					}
					m := some(rnd, 1+rnd.Intn(7), 1+rnd.Intn(12), n, least)
					m.laced, m.clear = laced, none
					// The last colours that there are, and that a code can tell.
					m.samples[0] = min(n, 1<<least) - 1
					isRaster(t, m)
				}
			}
		}
	}
}

// Of the colour that covers nothing each place of a table, and behind it.
func TestP18_1EveryClear(t *testing.T) {
	for none := -1; none <= 255; none++ {
		m := plain(3, 2, 0, 1, 2, 3, 0, 1)
		m.tints, m.least = tints(16), 4
		m.clear = none
		m.samples = []int{0, 15, max(0, min(none, 15)), 7, 8, 9}
		r, e := Read(m.file(t))
		want := max(none+1, 0)
		if none > 15 {
			want = 0
		}
		if e != api.OK || len(r.Alpha) != want {
			t.Fatal(none, r.Alpha, e)
		}
		for i, v := range r.Alpha {
			if (v == 0) != (i == none) || v != 0 && v != 255 {
				t.Fatal(none, r.Alpha)
			}
		}
		isRaster(t, m)
	}
}

// A text in one block, in many, in blocks of each size.
func TestP18_1EverySizeOfBlocks(t *testing.T) {
	rnd := rand.New(rand.NewSource(182))
	m := some(rnd, 17, 19, 256, 8)
	for i := range m.samples {
		m.samples[i] = i % 256
	}
	if n := len(m.text(t)); n <= 255 {
		t.Fatal(n)
	}
	for size := 1; size <= 255; size++ {
		m.size = size
		if size%8 > 1 {
			// What is the same in all calls need not be held against all cuts each time.
			if r, e := Read(m.file(t)); !sameRaster(r, m.raster()) || e != api.OK {
				t.Fatal(size, e)
			}
			continue
		}
		isRaster(t, m)
	}
	for size := 1; size <= 255; size++ {
		m := plain(2, 3, 0, 1, 2, 3, 2, 1)
		m.size = size
		isRaster(t, m)
	}
}

// Blocks of sizes by chance.
func TestP18_1UnevenBlocks(t *testing.T) {
	rnd := rand.New(rand.NewSource(183))
	for range 100 {
		m := some(rnd, 1+rnd.Intn(20), 1+rnd.Intn(20), 4, 2)
		b := m.front()
		for text := m.text(t); len(text) > 0; {
			n := min(len(text), 1+rnd.Intn(1<<rnd.Intn(8)))
			b = append(append(b, byte(n)), text[:n]...)
			text = text[n:]
		}
		b = append(b, 0, 59)
		if r, e := Read(b); !sameRaster(r, m.raster()) || e != api.OK {
			t.Fatal(r.Head, e)
		}
		asSlow(t, b, by(b, 3)...)
	}
}

// Pictures of one pixel, of one row, of one column, and of fewer rows than there are passes.
func TestP18_1SmallPictures(t *testing.T) {
	rnd := rand.New(rand.NewSource(184))
	for _, laced := range []bool{false, true} {
		for w := 1; w <= 5; w++ {
			for h := 1; h <= 18; h++ {
				m := some(rnd, w, h, 8, 3)
				m.laced = laced
				isRaster(t, m)
			}
		}
	}
}

// The passes of a laced picture come one behind the other, of whole rows.
func TestP18_1Passes(t *testing.T) {
	m := plain(1, 11)
	m.laced, m.tints, m.least = true, tints(16), 4
	for y := range 11 {
		m.samples = append(m.samples, y)
	}
	l, e := New().Push(m.file(t))
	if e != api.OK || len(l) != 11 {
		t.Fatal(l, e)
	}
	for i, want := range [][2]int{{1, 0}, {1, 8}, {2, 4}, {3, 2}, {3, 6}, {3, 10}, {4, 1}, {4, 3}, {4, 5}, {4, 7}, {4, 9}} {
		if l[i].Pass != want[0] || !slices.Equal(l[i].Spots, []api.Spot{{Y: want[1]}}) || l[i].Cols[0].R != uint16(want[1])*257 {
			t.Error(i, l[i], "not", want)
		}
	}
}

// The greatest pictures that there are.
func TestP18_1Greatest(t *testing.T) {
	rnd := rand.New(rand.NewSource(185))
	for i, side := range [][2]int{{2048, 32}, {32, 2048}, {256, 256}, {2048, 1}, {1, 2048}} {
		m := some(rnd, side[0], side[1], 256, 8)
		m.laced = i%2 == 0
		b := m.file(t)
		got, e := Read(b)
		if !sameRaster(got, m.raster()) || e != api.OK {
			t.Fatal(m.w, m.h, e)
		}
		var l []api.Line
		d := New()
		for part := range slices.Chunk(b, 1000) {
			more, e := d.Push(part)
			if e != api.OK {
				t.Fatal(e)
			}
			l = append(l, more...)
		}
		isPicture(t, l, m.raster())
	}
}

// Extensions of all labels, ahead of the picture and behind it. Behind it 249 is one like others.
func TestP18_1Extensions(t *testing.T) {
	forms := [][][]byte{
		{},
		{{0}},
		{{44, 0, 0}, {59}},
		{{33, 249, 4, 1}, {1, 0, 0, 7}, {0, 0, 0, 0}},
		{bytes.Repeat([]byte{249}, 255), bytes.Repeat([]byte{0}, 255), {1}},
		slices.Repeat([][]byte{{59}}, 40),
	}
	for label := range 256 {
		m := plain(2, 2, 0, 1, 2, 3)
		m.local = label%2 == 0
		x := aside(byte(label), forms[label%len(forms)]...)
		m.behind = x
		if label != 249 {
			m.ahead = x
		}
		isRaster(t, m)
	}
	for _, f := range forms {
		m := plain(2, 2, 0, 1, 2, 3)
		m.behind = slices.Concat(aside(249, f...), aside(1), covers(2), aside(249, f...))
		m.ahead = slices.Concat(aside(1, f...), aside(255, f...), aside(0))
		m.clear = 3
		isRaster(t, m)
	}
}

// Of several extensions ahead of the picture the last one with 249 counts; those behind it say nothing.
func TestP18_1LastCover(t *testing.T) {
	none, other := aside(249, []byte{0, 1, 1, 1}), aside(254, []byte{1, 0, 0, 9})
	for _, c := range []struct {
		parts [][]byte
		clear int
	}{
		{[][]byte{covers(3), covers(2)}, 2},
		{[][]byte{covers(1), none}, -1},
		{[][]byte{none, covers(1)}, 1},
		{[][]byte{covers(0), none, covers(9)}, -1},
		{[][]byte{covers(9), covers(0)}, 0},
		{[][]byte{other, covers(1), other}, 1},
		{[][]byte{covers(1), other, none, other}, -1},
		{[][]byte{covers(1), covers(2), covers(3), aside(1), covers(0), other, other}, 0},
	} {
		for _, local := range []bool{false, true} {
			m := plain(2, 2, 0, 1, 2, 3)
			m.local = local
			m.ahead = slices.Concat(c.parts...)
			m.behind = slices.Concat(covers(2), none)
			b := m.file(t)
			m.clear = c.clear
			if r, e := Read(b); !sameRaster(r, m.raster()) || e != api.OK {
				t.Error(r, e, "not", m.raster())
			}
			asSlow(t, b, by(b, 7)...)
		}
	}
}

// Bytes of a beginning that look as if a part began there.
func TestP18_1LookAlikes(t *testing.T) {
	for _, v := range []byte{33, 44, 59, 249} {
		for _, local := range []bool{false, true} {
			m := plain(int(v), 2)
			m.samples = make([]int, 2*int(v))
			m.tints = slices.Repeat([]api.Tint{{R: v, G: v, B: v}}, 8)
			m.local = local
			m.clear = int(v)
			m.ahead = slices.Concat(aside(v+1, []byte{v, v, v}), aside(33, []byte{33, v, 0}))
			m.behind = slices.Concat(aside(v, []byte{v, v, v}), aside(33, []byte{33, v, 0}))
			b := m.file(t)
			b[11], b[12] = v, v
			if r, e := Read(b); !sameRaster(r, m.raster()) || e != api.OK {
				t.Error(v, local, r, e)
			}
			asSlow(t, b, by(b, 5)...)
		}
	}
}

// Each beginning of a file is short; with a byte behind its end there is too much.
func TestP18_1Beginnings(t *testing.T) {
	rnd := rand.New(rand.NewSource(186))
	for _, n := range []int{2, 4, 32} {
		m := some(rnd, 5, 9, n, 5)
		m.clear = 1
		m.ahead, m.behind = aside(255, []byte{1, 2}), aside(249)
		b := m.file(t)
		for n := range b {
			if got, e := Read(b[:n]); !sameRaster(got, api.Raster{}) || e != api.ErrShort {
				t.Fatal(n, got, e)
			}
		}
		isRaster(t, m)
		for v := range 256 {
			if got, e := Read(append(slices.Clone(b), byte(v))); !sameRaster(got, api.Raster{}) || e != api.ErrTrail {
				t.Fatal(v, got, e)
			}
		}
	}
}

// A line comes with the byte that makes it whole: of codes of 8 bits and one each tells a byte, if the table is cleared often enough.
func TestP18_1EachLineAtItsByte(t *testing.T) {
	for _, laced := range []bool{false, true} {
		m := some(rand.New(rand.NewSource(187)), 3, 10, 256, 8)
		m.laced, m.size = laced, 20
		list := []int{256}
		for i, v := range m.inOrder() {
			if i%2 == 0 {
				list = append(list, 256)
			}
			list = append(list, int(v))
		}
		text, shows := codes(8, append(list, 257)...)
		var ats []int // how many bytes show each sample
		for i, c := range list {
			if c < 256 {
				ats = append(ats, m.shows(shows[i]))
			}
		}
		b := m.with(t, text)
		d := New()
		from := 0
		for i, want := range slowLines(m.head()) {
			at := ats[3*i+2]
			if l, e := d.Push(b[from : at-1]); len(l) != 0 || e != api.OK || d.Told() != i {
				t.Fatal(i, l, e)
			}
			l, e := d.Push(b[at-1 : at])
			if len(l) != 1 || e != api.OK || l[0].Pass != want.Pass || !slices.Equal(l[0].Spots, want.Spots) || d.Told() != i+1 {
				t.Fatal(i, l, e)
			}
			from = at
		}
		if l, e := d.Push(b[from:]); len(l) != 0 || e != api.OK || !d.Done() {
			t.Fatal(l, e)
		}
		asSlow(t, b)
	}
}

// Codes of every form: without a clear ahead, with many, with texts that are long, a full table, and clears when all is told.
func TestP18_1Codes(t *testing.T) {
	m := plain(2, 3, 1, 1, 1, 1, 1, 1)
	for _, list := range [][]int{
		{1, 1, 1, 1, 1, 1, 5},
		{4, 1, 1, 1, 1, 1, 1, 5},
		{4, 4, 4, 1, 4, 1, 1, 4, 4, 1, 1, 1, 5},
		{1, 6, 7, 5},
		{4, 1, 6, 7, 5},
		{4, 1, 6, 6, 1, 5},
		{4, 1, 6, 7, 4, 5},
		{4, 1, 6, 7, 4, 4, 4, 4, 4, 4, 5},
	} {
		text, _ := codes(2, list...)
		for _, size := range []int{1, 2, 255} {
			m.size = size
			b := m.with(t, text)
			if r, e := Read(b); !sameRaster(r, m.raster()) || e != api.OK {
				t.Error(list, r.Samples, e)
			}
			asSlow(t, b, by(b, 3)...)
		}
	}
	// A full table, and clears that come late, or never.
	rnd := rand.New(rand.NewSource(188))
	for _, late := range []int{0, 1, 5000, 100000} {
		m := some(rnd, 128, 128, 256, 8)
		m.late = late
		b := m.file(t)
		if r, e := Read(b); !sameRaster(r, m.raster()) || e != api.OK {
			t.Error(late, e)
		}
	}
}

// What is handed in stays as it was, and so does what was told; no two answers share memory.
func TestP18_1Memory(t *testing.T) {
	rnd := rand.New(rand.NewSource(189))
	for i := range 12 {
		m := some(rnd, 7, 6, 4, 3)
		m.clear = i%5 - 1
		r := m.raster()
		b := m.file(t)
		d := New()
		var told, kept []api.Line
		for from := 0; from < len(b); from += 5 {
			in := append(slices.Clone(b[from:min(from+5, len(b))]), 1, 2, 3)
			was := slices.Clone(in)
			l, e := d.Push(in[:len(in)-3])
			if e != api.OK || !bytes.Equal(in, was) {
				t.Fatal(e, in, was)
			}
			// What is written over in what was handed in isn't seen any more.
			clear(in)
			told = append(told, l...)
			kept = append(kept, deep(l)...)
		}
		if !slices.EqualFunc(told, kept, sameLine) {
			t.Fatal("lines that were told have changed")
		}
		isPicture(t, told, r)
		apart(t, told, kept)
		was := slices.Clone(b)
		first, _ := Read(b)
		second, _ := Read(b)
		if !bytes.Equal(b, was) || !sameRaster(first, r) {
			t.Fatal(first)
		}
		clear(b)
		clear(first.Samples[:cap(first.Samples)])
		clear(first.Tints[:cap(first.Tints)])
		clear(first.Alpha[:cap(first.Alpha)])
		if !sameRaster(second, r) {
			t.Fatal(second)
		}
	}
}

// apart writes to the lists of one line after the other: those of all others, their spare room too, must stay as they are.
func apart(t *testing.T, told, kept []api.Line) {
	t.Helper()
	for i := range told {
		spots := told[i].Spots[:cap(told[i].Spots)]
		cols := told[i].Cols[:cap(told[i].Cols)]
		for j := range spots {
			spots[j] = api.Spot{X: -9, Y: -9}
		}
		for j := range cols {
			cols[j] = api.Color{R: 1, G: 2, B: 3, A: 4}
		}
		if !slices.EqualFunc(told[i+1:], kept[i+1:], sameLine) {
			t.Fatal("lines share memory", i)
		}
	}
}

// Lines that are written over don't change those that are told later.
func TestP18_1LinesWrittenOver(t *testing.T) {
	rnd := rand.New(rand.NewSource(190))
	for range 12 {
		m := some(rnd, 7, 12, 8, 3)
		b := m.file(t)
		d := New()
		var kept []api.Line
		for i := range b {
			l, e := d.Push(b[i : i+1])
			if e != api.OK {
				t.Fatal(e)
			}
			kept = append(kept, deep(l)...)
			spoil(l)
		}
		isPicture(t, kept, m.raster())
	}
}

// deep is lines in memory of their own.
func deep(l []api.Line) (out []api.Line) {
	for _, x := range l {
		out = append(out, api.Line{Pass: x.Pass, Spots: slices.Clone(x.Spots), Cols: slices.Clone(x.Cols)})
	}
	return out
}

// spoil writes over lines.
func spoil(l []api.Line) {
	for i := range l {
		clear(l[i].Spots)
		clear(l[i].Cols)
		l[i].Pass = 99
	}
}

// Decoders of their own don't depend on one another.
func TestP18_1TwoDecoders(t *testing.T) {
	rnd := rand.New(rand.NewSource(191))
	one, other := some(rnd, 5, 6, 4, 2), some(rnd, 6, 5, 16, 4)
	a, b := one.file(t), other.file(t)
	d, o := New(), New()
	var l, m []api.Line
	for i := range max(len(a), len(b)) {
		if i < len(a) {
			more, _ := d.Push(a[i : i+1])
			l = append(l, more...)
		}
		if i < len(b) {
			more, _ := o.Push(b[i : i+1])
			m = append(m, more...)
		}
	}
	isPicture(t, l, one.raster())
	isPicture(t, m, other.raster())
}
