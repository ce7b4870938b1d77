package ingest

import (
	"math/rand"
	"slices"
	"testing"

	"halftone/api"
	"halftone/canvas"
	"halftone/front"
	"halftone/gif"
	"halftone/pixel"
	"halftone/png"
	"halftone/zlib"
)

// written is a file, its raster, and its lines.
type written struct {
	file   []byte
	raster api.Raster
	lines  []api.Line
	woven  bool
}

func writtenPng(r api.Raster, how, kind, size int) written {
	return written{must(Png(r, how, kind, size)), r, painted(r, pngLines(r.Head)), false}
}

func writtenGif(r api.Raster, late, size int) written {
	return written{must(Gif(r, late, size)), r, painted(r, gifLines(r.Head)), true}
}

// files is some of both kinds, all of whose pixels cover all.
func files(rnd *rand.Rand, n, side int, laced func(i int) bool) (list []written) {
	for i := range n {
		w, h := 1+rnd.Intn(side), 1+rnd.Intn(side)
		list = append(list,
			writtenPng(opaque(rnd, headOf(i, w, h, laced(i))), rnd.Intn(4), rnd.Intn(6), 1+rnd.Intn(99)),
			writtenGif(listedOf(rnd, w, h, laced(i), 1+rnd.Intn(256), -1), rnd.Intn(3), 1+rnd.Intn(255)))
	}
	return list
}

func every(int) bool { return true }

// Each beginning of a file shows just the first lines, in the colours of the image; all of them make it full.
func TestP1EachBeginning(t *testing.T) {
	t.Parallel()
	rnd := rand.New(rand.NewSource(361))
	for _, x := range files(rnd, 30, 9, func(i int) bool { return i%2 == 0 }) {
		want := must(pixel.Image(x.raster))
		for n := range len(x.file) + 1 {
			f := front.New()
			l, e := f.Push(x.file[:n])
			if e != api.OK || !sameLines(l, x.lines[:len(l)]) || f.Done() != (n == len(x.file)) {
				t.Fatal(x.raster.Head, n, len(l), e, f.Done())
			}
			c := must(canvas.New(x.raster.Head.W, x.raster.Head.H))
			for _, one := range l {
				if e := c.Lay(one); e != api.OK {
					t.Fatal(x.raster.Head, n, e)
				}
			}
			m := c.Image()
			for i, known := range c.Mask() {
				if known && m.Pix[i] != want.Pix[i] {
					t.Fatal(x.raster.Head, n, i)
				}
			}
			if c.Full() != (len(l) == len(x.lines)) || f.Done() && !sameImage(m, want) {
				t.Fatal(x.raster.Head, n, c.Full())
			}
		}
	}
}

// Of a stored PNG each byte of the lines is one of the file: a line is told with its last one, not with the one ahead of it.
func TestP2AsSoonAsItIsThere(t *testing.T) {
	rnd := rand.New(rand.NewSource(362))
	for i := range len(kinds) * 2 {
		r := rasterOf(rnd, headOf(i, 1+rnd.Intn(12), 1+rnd.Intn(12), i%4 < 2), true)
		kind, size := rnd.Intn(6), 1+rnd.Intn(40)
		x := writtenPng(r, 0, kind, size)
		rows := slowRows(r, kind)
		// Ahead of the lines' bytes stand the wrapping's head, and the block's.
		at, toldAt := 2+5, []int{}
		for _, row := range rows {
			at += len(row)
			toldAt = append(toldAt, len(slowStart(r))+8+(at-1)+12*((at-1)/size)+1)
		}
		if n := len(must(zlib.Pack(slowText(r, kind), 0))); n != at+4 || len(rows) != len(x.lines) {
			t.Fatal(n, at, len(rows))
		}
		f := front.New()
		told := 0
		for j := range x.file {
			l, e := f.Push(x.file[j : j+1])
			want := 0
			for told+want < len(toldAt) && toldAt[told+want] == j+1 {
				want++
			}
			if e != api.OK || !sameLines(l, x.lines[told:told+want]) {
				t.Fatal(r.Head, kind, size, j, len(l), e, "not", want)
			}
			told += want
		}
		if told != len(rows) {
			t.Fatal(told, len(rows))
		}
	}
}

// The fourth example of the whole document: of a laced PNG of 8 by 8 the first line is the pixel (0, 0).
func TestP2Example(t *testing.T) {
	rnd := rand.New(rand.NewSource(363))
	x := writtenPng(opaque(rnd, api.Head{W: 8, H: 8, Color: 2, Depth: 16, Laced: true}), 0, 4, 64)
	c := must(canvas.New(8, 8))
	f := front.New()
	for j := range x.file {
		l, _ := f.Push(x.file[j : j+1])
		if len(l) == 0 {
			continue
		}
		if c.Lay(l[0]) != api.OK || !slices.Equal(l[0].Spots, []api.Spot{{}}) {
			t.Fatal(l)
		}
		if v := c.View(false); !slices.Equal(v.Pix, slices.Repeat(must(pixel.Image(x.raster)).Pix[:1], 64)) {
			t.Fatal(v)
		}
		return
	}
	t.Error("no line")
}

// Of a laced picture no pixel of the view is left out as soon as its first pass is there; ahead of the second one each has the colour of the first pass's pixel that stands for it.
func TestP2ViewOfFirstPass(t *testing.T) {
	rnd := rand.New(rand.NewSource(364))
	for _, x := range files(rnd, 60, 40, every) {
		first := slices.IndexFunc(append(slices.Clone(x.lines), api.Line{}), func(l api.Line) bool { return l.Pass != 1 })
		want := must(pixel.Image(x.raster))
		c := must(canvas.New(want.W, want.H))
		f := front.New()
		for j := range x.file {
			l, e := f.Push(x.file[j : j+1])
			if e != api.OK {
				t.Fatal(e)
			}
			for _, one := range l {
				c.Lay(one)
			}
			if len(l) == 0 || f.Told() < first {
				continue
			}
			view := c.View(x.woven)
			for i, colour := range view.Pix {
				// Each pixel covers all: the colour zero is none of the picture's.
				if colour == (api.Color{}) {
					t.Fatal(x.raster.Head, j, i, "is left out")
				}
				if f.Told() == first && colour != standsFor(want, i, x.woven) {
					t.Fatal(x.raster.Head, j, i, colour)
				}
			}
		}
		if !sameImage(c.View(x.woven), want) {
			t.Fatal(x.raster.Head)
		}
	}
}

// standsFor is the colour of the pixel of the first pass that stands for another one.
func standsFor(m api.Image, i int, woven bool) api.Color {
	x, y := i%m.W, i/m.W/8*8
	if !woven {
		x = x / 8 * 8
	}
	return m.Pix[y*m.W+x]
}

// Every raster by chance is written as a PNG that is accepted, with its image; every one with a table that may be, as a GIF.
func TestP5EveryRaster(t *testing.T) {
	t.Parallel()
	rnd := rand.New(rand.NewSource(365))
	for i := range 400 {
		w := 1 + rnd.Intn(60)
		h := 1 + rnd.Intn(60)
		r := rasterOf(rnd, headOf(i, w, h, rnd.Intn(2) == 0), rnd.Intn(2) == 0)
		b, e := Png(r, rnd.Intn(4), rnd.Intn(6), 64+rnd.Intn(300))
		if m, wrong := front.Check(b); e != api.OK || wrong != api.OK || !sameImage(m, must(pixel.Image(r))) {
			t.Fatal(r.Head, e, wrong)
		}
		n := 1 + rnd.Intn(256)
		r = listedOf(rnd, w, h, rnd.Intn(2) == 0, n, rnd.Intn(n+1)-1)
		b, e = Gif(r, rnd.Intn(5), 1+rnd.Intn(255))
		if m, wrong := front.Check(b); e != api.OK || wrong != api.OK || !sameImage(m, must(pixel.Image(r))) {
			t.Fatal(r.Head, n, e, wrong)
		}
	}
}

// Alphas that a GIF refuses a PNG may have: of each of the table's colours any.
func TestP5EveryAlpha(t *testing.T) {
	r := plain(256, 1, false)
	r.Tints = tintsOf(256)
	for v := range 256 {
		r.Samples = append(r.Samples, v)
		r.Alpha = append(r.Alpha, 255-v)
	}
	refusedGif(t, r, 0, 255, api.ErrPalette)
	thereAndBack(t, r, 3, 5, 64, 100)
}

// What is written again of what was read is the same file.
func TestP6Again(t *testing.T) {
	rnd := rand.New(rand.NewSource(366))
	for i := range len(kinds) * 6 {
		r := rasterOf(rnd, headOf(i, 1+rnd.Intn(20), 1+rnd.Intn(20), i%2 == 0), i%3 == 0)
		how, kind, size := rnd.Intn(4), rnd.Intn(6), 1+rnd.Intn(99)
		b := thereAndBack(t, r, how, kind, size, 1+rnd.Intn(30))
		if again := must(Png(must(png.Read(b)), how, kind, size)); !slices.Equal(again, b) {
			t.Fatal(r.Head)
		}
		n := 1 + rnd.Intn(256)
		r = listedOf(rnd, 1+rnd.Intn(20), 1+rnd.Intn(20), i%2 == 0, n, rnd.Intn(n+1)-1)
		b = wovenAndBack(t, r, i%3, size, 1+rnd.Intn(30))
		if again := must(Gif(must(gif.Read(b)), i%3, size)); !slices.Equal(again, b) {
			t.Fatal(r.Head)
		}
	}
}
