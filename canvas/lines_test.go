package canvas

import (
	"bytes"
	"image"
	"image/color"
	librarygif "image/gif"
	librarypng "image/png"
	"iter"
	"math/rand"
	"slices"
	"testing"

	"halftone/adam"
	"halftone/api"
	"halftone/gif"
	"halftone/pixel"
	"halftone/png"
)

// linesOf is all lines of a picture, with the tones of their places.
func linesOf(seq iter.Seq2[int, []api.Spot]) []api.Line {
	var all []api.Line
	for pass, spots := range seq {
		l := lineOf(spots...)
		l.Pass = pass
		all = append(all, l)
	}
	return all
}

// fills lays lines one by one: the canvas is full behind the last one only, each line is refused when it comes again, and the image is the picture.
func fills(t *testing.T, lines []api.Line, want api.Image) {
	t.Helper()
	c := made(t, want.W, want.H)
	n := 0
	for i, l := range lines {
		if c.Full() {
			t.Fatal(want.W, want.H, "full ahead of line", i)
		}
		laid(t, c, l)
		n += len(l.Spots)
		if c.Count() != n || c.Lay(l) != api.ErrOrder || c.Count() != n {
			t.Fatal(want.W, want.H, i, n, c.Count())
		}
		// Never a pixel that isn't the picture's.
		mask, got := c.Mask(), c.Image()
		for j, known := range mask {
			if known && got.Pix[j] != want.Pix[j] || !known && got.Pix[j] != (api.Color{}) {
				t.Fatal(want.W, want.H, i, j, got.Pix[j])
			}
		}
	}
	if !c.Full() || slices.Contains(c.Mask(), false) || !sameImage(c.Image(), want) || !sameImage(c.View(false), want) || !sameImage(c.View(true), want) {
		t.Fatal(want.W, want.H, c.Full())
	}
}

// inAllOrders lays lines as they come, the other way round, and mixed.
func inAllOrders(t *testing.T, rnd *rand.Rand, lines []api.Line, want api.Image) {
	t.Helper()
	fills(t, lines, want)
	lines = slices.Clone(lines)
	slices.Reverse(lines)
	fills(t, lines, want)
	for range 2 {
		rnd.Shuffle(len(lines), func(i, j int) { lines[i], lines[j] = lines[j], lines[i] })
		fills(t, lines, want)
	}
}

func TestP19_3AllLines(t *testing.T) {
	rnd := rand.New(rand.NewSource(192))
	for w := 1; w <= 18; w++ {
		for h := 1; h <= 18; h++ {
			want := api.Image{W: w, H: h, Pix: lineOf(allSpots(w, h)...).Cols}
			for _, laced := range []bool{false, true} {
				inAllOrders(t, rnd, linesOf(adam.Lines(w, h, laced)), want)
				inAllOrders(t, rnd, linesOf(adam.Woven(w, h, laced)), want)
			}
		}
	}
}

// So are the lines of a picture as great as may be, of which one is left for last.
func TestP19_3GreatPictures(t *testing.T) {
	rnd := rand.New(rand.NewSource(193))
	for _, side := range [][2]int{{256, 256}, {2048, 32}, {32, 2048}} {
		want := api.Image{W: side[0], H: side[1], Pix: lineOf(allSpots(side[0], side[1])...).Cols}
		for _, lines := range [][]api.Line{linesOf(adam.Lines(side[0], side[1], true)), linesOf(adam.Woven(side[0], side[1], true))} {
			rnd.Shuffle(len(lines), func(i, j int) { lines[i], lines[j] = lines[j], lines[i] })
			c := made(t, side[0], side[1])
			for _, l := range lines {
				if c.Full() {
					t.Fatal(side, "full")
				}
				laid(t, c, l)
			}
			if !c.Full() || !sameImage(c.Image(), want) {
				t.Fatal(side)
			}
		}
	}
}

// painted is a picture of the library's, of any colours of a table.
func painted(rnd *rand.Rand) *image.Paletted {
	var table color.Palette
	for range 2 + rnd.Intn(30) {
		table = append(table, color.NRGBA{R: byte(rnd.Intn(256)), G: byte(rnd.Intn(256)), B: byte(rnd.Intn(256)), A: 255})
	}
	m := image.NewPaletted(image.Rect(0, 0, 1+rnd.Intn(20), 1+rnd.Intn(20)), table)
	for i := range m.Pix {
		m.Pix[i] = byte(rnd.Intn(len(table)))
	}
	return m
}

// The lines that the readers of files tell fill a canvas with the picture.
func TestP19_3LinesOfFiles(t *testing.T) {
	rnd := rand.New(rand.NewSource(194))
	for range 40 {
		m := painted(rnd)
		var b bytes.Buffer
		if err := librarypng.Encode(&b, m); err != nil {
			t.Fatal(err)
		}
		lines, e := png.New().Push(b.Bytes())
		raster, wrong := png.Read(b.Bytes())
		want, bad := pixel.Image(raster)
		if e != api.OK || wrong != api.OK || bad != api.OK {
			t.Fatal(e, wrong, bad)
		}
		inAllOrders(t, rnd, lines, want)

		b.Reset()
		if err := librarygif.Encode(&b, m, nil); err != nil {
			t.Fatal(err)
		}
		lines, e = gif.New().Push(b.Bytes())
		raster, wrong = gif.Read(b.Bytes())
		want, bad = pixel.Image(raster)
		if e != api.OK || wrong != api.OK || bad != api.OK {
			t.Fatal(e, wrong, bad)
		}
		inAllOrders(t, rnd, lines, want)
	}
}
