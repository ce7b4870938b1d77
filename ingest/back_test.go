package ingest

import (
	"fmt"
	"math"
	"math/rand"
	"slices"
	"testing"

	"halftone/adam"
	"halftone/api"
	"halftone/canvas"
	"halftone/front"
	"halftone/gif"
	"halftone/pixel"
	"halftone/png"
)

// isOf asks a file for the image and the lines of a raster: all at once, and in pieces of these sizes.
func isOf(t *testing.T, b []byte, r api.Raster, lines []api.Line, woven bool, sizes ...int) {
	t.Helper()
	want := must(pixel.Image(r))
	if m, e := front.Check(b); e != api.OK || !sameImage(m, want) {
		t.Fatal(r.Head, len(b), e)
	}
	if l, e := front.Lines(b); e != api.OK || !sameLines(l, lines) {
		t.Fatal(r.Head, len(l), e, "not", len(lines))
	}
	for _, size := range sizes {
		f := front.New()
		c := must(canvas.New(r.Head.W, r.Head.H))
		var all []api.Line
		for piece := range slices.Chunk(b, size) {
			l, e := f.Push(piece)
			if e != api.OK {
				t.Fatal(r.Head, size, e)
			}
			all = append(all, l...)
			for _, one := range l {
				if e := c.Lay(one); e != api.OK {
					t.Fatal(r.Head, size, one, e)
				}
			}
		}
		h, known := f.Head()
		if !f.Done() || f.Woven() != woven || !known || h != r.Head || !sameLines(all, lines) || !c.Full() || !sameImage(c.Image(), want) {
			t.Fatal(r.Head, size, f.Done(), f.Woven(), h, known, len(all), c.Full())
		}
	}
}

// thereAndBack writes a raster as a PNG, and reads it.
func thereAndBack(t *testing.T, r api.Raster, how, kind, size int, pieces ...int) []byte {
	t.Helper()
	b, e := Png(r, how, kind, size)
	if e != api.OK {
		t.Fatal(r.Head, how, kind, size, e)
	}
	isOf(t, b, r, painted(r, pngLines(r.Head)), false, pieces...)
	if got, e := png.Read(b); e != api.OK || !sameRaster(got, r) {
		t.Fatal(r.Head, how, kind, size, e)
	}
	return b
}

// wovenAndBack writes a raster as a GIF, and reads it: with black colours behind its own, and no more of Alpha than the 0 and what stands ahead of it.
func wovenAndBack(t *testing.T, r api.Raster, late, size int, pieces ...int) []byte {
	t.Helper()
	b, e := Gif(r, late, size)
	if e != api.OK {
		t.Fatal(r.Head, len(r.Tints), late, size, e)
	}
	isOf(t, b, r, painted(r, gifLines(r.Head)), true, pieces...)
	want := copied(r)
	n, _ := tableOf(len(r.Tints))
	want.Tints = append(want.Tints, make([]api.Tint, n-len(r.Tints))...)
	want.Alpha = want.Alpha[:slices.Index(want.Alpha, 0)+1]
	if got, e := gif.Read(b); e != api.OK || !sameRaster(got, want) {
		t.Fatal(r.Head, len(r.Tints), late, size, e)
	}
	return b
}

// Every kind of colours, depth, how and filter, laced and not, of many sides.
func TestP21_2EveryKind(t *testing.T) {
	t.Parallel()
	rnd := rand.New(rand.NewSource(331))
	for i := range kinds {
		for _, side := range sides {
			for _, laced := range []bool{false, true} {
				h := headOf(i, side[0], side[1], laced)
				for how := range 4 {
					thereAndBack(t, rasterOf(rnd, h, how%2 == 0), how, rnd.Intn(6), 64+rnd.Intn(9), 1, 13)
				}
				for kind := range 6 {
					thereAndBack(t, rasterOf(rnd, h, kind%2 == 0), rnd.Intn(4), kind, 1+rnd.Intn(70), 7, 64)
				}
			}
		}
	}
}

// Each how with each filter.
func TestP21_2EachHow(t *testing.T) {
	t.Parallel()
	rnd := rand.New(rand.NewSource(332))
	for i := range kinds {
		for how := range 4 {
			for kind := range 6 {
				for _, laced := range []bool{false, true} {
					h := headOf(i, 1+rnd.Intn(40), 1+rnd.Intn(40), laced)
					thereAndBack(t, smooth(h), how, kind, 64, 100)
					thereAndBack(t, rasterOf(rnd, h, true), how, kind, api.MaxFile, 1000)
				}
			}
		}
	}
}

// All that is promised of 20000 pixels: nothing that can be packed, of the kinds with the most bytes, in IDATs of 64 bytes.
func TestP21_2Great(t *testing.T) {
	t.Parallel()
	rnd := rand.New(rand.NewSource(333))
	for i, side := range [][2]int{{200, 100}, {2048, 9}, {9, 2048}, {20, 1000}, {141, 141}} {
		for how := range 4 {
			r := rasterOf(rnd, api.Head{W: side[0], H: side[1], Color: 6, Depth: 16, Laced: (i+how)%2 == 0}, false)
			thereAndBack(t, r, how, (i+how)%6, 64, 1024)
		}
		for k := i; k < len(kinds); k += 3 {
			thereAndBack(t, rasterOf(rnd, headOf(k, side[0], side[1], k%2 == i%2), true), k%4, (k+i)%6, 64+k, 5000)
		}
	}
}

// Pictures of MaxPixels, too.
func TestP21_2Greatest(t *testing.T) {
	t.Parallel()
	rnd := rand.New(rand.NewSource(334))
	for i, side := range [][2]int{{256, 256}, {2048, 32}, {32, 2048}} {
		r := rasterOf(rnd, api.Head{W: side[0], H: side[1], Color: 6, Depth: 16, Laced: i > 0}, false)
		thereAndBack(t, r, 1, 5-i, 64, 1<<16)
		thereAndBack(t, smooth(api.Head{W: side[0], H: side[1], Color: 3, Depth: 8, Laced: true}), 3, 5, 64, 1024)
	}
}

// However a file is cut: all at once, in two pieces, in pieces of every size.
func TestP21_2EveryCut(t *testing.T) {
	t.Parallel()
	rnd := rand.New(rand.NewSource(335))
	for i := range kinds {
		for _, laced := range []bool{false, true} {
			r := rasterOf(rnd, headOf(i, 5, 4, laced), true)
			b := must(Png(r, i%4, 5, 1+rnd.Intn(30)))
			everyCut(t, b, painted(r, pngLines(r.Head)))
		}
	}
}

// everyCut pushes a file in two pieces, cut everywhere, and in pieces of every size.
func everyCut(t *testing.T, b []byte, want []api.Line) {
	t.Helper()
	for n := range len(b) + 1 {
		f := front.New()
		first, e := f.Push(b[:n])
		second, wrong := f.Push(b[n:])
		if e != api.OK || wrong != api.OK || !f.Done() || !sameLines(append(first, second...), want) {
			t.Fatal(n, e, wrong, f.Done())
		}
		if n == 0 {
			continue
		}
		f = front.New()
		var all []api.Line
		for piece := range slices.Chunk(b, n) {
			l, e := f.Push(piece)
			if e != api.OK {
				t.Fatal(n, e)
			}
			all = append(all, l...)
		}
		if !f.Done() || !sameLines(all, want) {
			t.Fatal(n, f.Done())
		}
	}
}

// Lines come in the order of layer 14's Lines and Woven.
func TestP21_2Order(t *testing.T) {
	rnd := rand.New(rand.NewSource(336))
	for w := 1; w <= 10; w++ {
		for h := 1; h <= 10; h++ {
			for _, laced := range []bool{false, true} {
				r := listedOf(rnd, w, h, laced, 9, 4)
				inOrder(t, must(front.Lines(must(Png(r, 3, 5, 64)))), r, collected(adam.Lines(w, h, laced)))
				inOrder(t, must(front.Lines(must(Gif(r, 0, 64)))), r, collected(adam.Woven(w, h, laced)))
			}
		}
	}
}

// collected is what an iterator tells, as lines without colours.
func collected(told func(func(int, []api.Spot) bool)) (list []api.Line) {
	for pass, spots := range told {
		list = append(list, api.Line{Pass: pass, Spots: spots})
	}
	return list
}

func inOrder(t *testing.T, got []api.Line, r api.Raster, want []api.Line) {
	t.Helper()
	if !sameLines(got, painted(r, want)) {
		t.Fatal(r.Head, len(got), len(want))
	}
}

// Every number of colours, with and without one that covers nothing, laced and not.
func TestP21_3EveryTable(t *testing.T) {
	t.Parallel()
	rnd := rand.New(rand.NewSource(341))
	for n := 1; n <= 256; n++ {
		for _, bare := range []int{-1, rnd.Intn(n)} {
			for _, laced := range []bool{false, true} {
				r := listedOf(rnd, 1+rnd.Intn(12), 1+rnd.Intn(12), laced, n, bare)
				wovenAndBack(t, r, rnd.Intn(3), 1+rnd.Intn(255), 1, 50)
				// Behind the one that covers nothing others may be told.
				for bare >= 0 && len(r.Alpha) < n && rnd.Intn(3) > 0 {
					r.Alpha = append(r.Alpha, 255)
				}
				wovenAndBack(t, r, 0, 255, 9)
			}
		}
	}
}

func TestP21_3EverySide(t *testing.T) {
	t.Parallel()
	rnd := rand.New(rand.NewSource(342))
	for _, side := range slices.Concat(sides, [][2]int{{2048, 1}, {1, 2048}, {33, 31}, {100, 200}, {2048, 9}, {9, 2048}, {256, 256}}) {
		for _, laced := range []bool{false, true} {
			for _, n := range []int{1, 2, 3, 200} {
				for _, late := range []int{0, 1, 500, math.MaxInt} {
					wovenAndBack(t, listedOf(rnd, side[0], side[1], laced, n, rnd.Intn(n+1)-1), late, 1+rnd.Intn(255), 1+rnd.Intn(3000))
				}
			}
		}
	}
}

func TestP21_3EveryCut(t *testing.T) {
	rnd := rand.New(rand.NewSource(343))
	for i := range 24 {
		n := 1 + rnd.Intn(20)
		r := listedOf(rnd, 1+rnd.Intn(9), 1+rnd.Intn(9), i%2 == 0, n, rnd.Intn(n+1)-1)
		everyCut(t, must(Gif(r, 0, 1+rnd.Intn(40))), painted(r, gifLines(r.Head)))
	}
}

// asFull is a picture with a table as one with all colours and what they cover.
func asFull(r api.Raster) api.Raster {
	full := api.Raster{Head: r.Head}
	full.Head.Color, full.Head.Depth = 6, 8
	for _, v := range r.Samples {
		c, cover := r.Tints[v], 255
		if v < len(r.Alpha) {
			cover = r.Alpha[v]
		}
		full.Samples = append(full.Samples, int(c.R), int(c.G), int(c.B), cover)
	}
	return full
}

// One picture, as a GIF, as a PNG with a table, and as one with all colours and what they cover, shows the same image.
func TestP21_3SamePicture(t *testing.T) {
	rnd := rand.New(rand.NewSource(344))
	for i := range 200 {
		n := 1 + rnd.Intn(256)
		r := listedOf(rnd, 1+rnd.Intn(30), 1+rnd.Intn(30), i%2 == 0, n, rnd.Intn(n+1)-1)
		want := must(pixel.Image(r))
		for j, b := range [][]byte{
			must(Gif(r, rnd.Intn(9), 1+rnd.Intn(255))),
			must(Png(r, rnd.Intn(4), rnd.Intn(6), 64+rnd.Intn(99))),
			must(Png(asFull(r), rnd.Intn(4), rnd.Intn(6), 64+rnd.Intn(99))),
		} {
			if m, e := front.Check(b); e != api.OK || !sameImage(m, want) {
				t.Fatal(r.Head, n, j, e)
			}
		}
	}
}

// ownLines asks whether what a file tells are lines of its own head, in their order; all of them, if it is accepted.
func ownLines(t *testing.T, b []byte) (refused api.Errno) {
	t.Helper()
	f := front.New()
	got, e := f.Push(b)
	h, known := f.Head()
	if len(got) > 0 && !known {
		t.Fatal("lines without a head")
	}
	var all []api.Line
	switch {
	case known && f.Woven():
		all = gifLines(h)
	case known:
		all = pngLines(h)
	}
	if len(got) > len(all) || f.Done() && len(got) != len(all) {
		t.Fatal(h, len(got), len(all), e)
	}
	for i, l := range got {
		if l.Pass != all[i].Pass || !slices.Equal(l.Spots, all[i].Spots) || len(l.Cols) != len(l.Spots) {
			t.Fatal(h, i, fmt.Sprint(l))
		}
	}
	m, refused := front.Check(b)
	if (refused == api.OK) != (e == api.OK && f.Done()) || refused == api.OK && (m.W != h.W || m.H != h.H) {
		t.Fatal(h, e, refused, m.W, m.H)
	}
	return refused
}

// A file of which one byte is another one is refused, or shows lines all of which are of its own head. A PNG always is refused.
func TestP21_2EveryByteOther(t *testing.T) {
	t.Parallel()
	rnd := rand.New(rand.NewSource(351))
	for i := range kinds {
		r := rasterOf(rnd, headOf(i, 3+i%3, 2+i%4, i%2 == 0), true)
		b := must(Png(r, i%4, 5, 64))
		for at := range b {
			for _, v := range []byte{1, 2, 4, 8, 16, 32, 64, 128, 255, byte(1 + rnd.Intn(255))} {
				other := slices.Clone(b)
				other[at] ^= v
				if ownLines(t, other) == api.OK {
					t.Fatal(r.Head, at, v, "is accepted")
				}
			}
		}
	}
}

func TestP21_3EveryByteOther(t *testing.T) {
	t.Parallel()
	rnd := rand.New(rand.NewSource(352))
	met := map[api.Errno]int{}
	for i := range 6 {
		n := 1 + rnd.Intn(12)
		b := must(Gif(listedOf(rnd, 3+i%3, 2+i%4, i%2 == 0, n, rnd.Intn(n+1)-1), 0, 1+rnd.Intn(20)))
		for at := range b {
			for v := 1; v < 256; v++ {
				other := slices.Clone(b)
				other[at] ^= byte(v)
				met[ownLines(t, other)]++
			}
		}
	}
	for _, e := range []api.Errno{api.OK, api.ErrShort, api.ErrForm, api.ErrHead, api.ErrIndex, api.ErrSymbol, api.ErrMissing} {
		if met[e] == 0 {
			t.Error("no file with", e)
		}
	}
}
