package ingest

import (
	"math/rand"
	"slices"

	"halftone/api"
	"halftone/pixel"
)

// must is an answer beside which there may be no error.
func must[T any](v T, e api.Errno) T {
	if e != api.OK {
		panic(e)
	}
	return v
}

// kinds are the pairs of a kind of colours and a depth that a PNG may have.
var kinds = [][2]int{{0, 1}, {0, 2}, {0, 4}, {0, 8}, {0, 16}, {2, 8}, {2, 16}, {3, 1}, {3, 2}, {3, 4}, {3, 8}, {4, 8}, {4, 16}, {6, 8}, {6, 16}}

// sides are small ones, among them such as leave passes of a laced picture empty.
var sides = [][2]int{{1, 1}, {1, 2}, {2, 1}, {1, 9}, {9, 1}, {3, 2}, {2, 3}, {4, 4}, {5, 3}, {3, 5}, {8, 8}, {9, 7}, {17, 10}}

// headOf is the head of the i-th kind.
func headOf(i, w, h int, laced bool) api.Head {
	k := kinds[i%len(kinds)]
	return api.Head{W: w, H: h, Color: k[0], Depth: k[1], Laced: laced}
}

// tintsOf is n colours, none of them black, no two the same.
func tintsOf(n int) (l []api.Tint) {
	for i := range n {
		l = append(l, api.Tint{R: byte(i), G: byte(255 - i), B: byte(i*7 + 1)})
	}
	return l
}

// some is n numbers, by chance, below end.
func some(rnd *rand.Rand, n, end int) []int {
	l := make([]int, n)
	for i := range l {
		l[i] = rnd.Intn(end)
	}
	return l
}

// opaque is a raster of a head, with samples by chance, of which each pixel covers all: of kind 3 with so many colours as there may be.
func opaque(rnd *rand.Rand, h api.Head) api.Raster {
	r := api.Raster{Head: h}
	n := perPixel(h.Color)
	if h.Color == 3 {
		r.Tints = tintsOf(1 << h.Depth)
	}
	r.Samples = some(rnd, h.W*h.H*n, 1<<h.Depth)
	if h.Color == 4 || h.Color == 6 {
		for i := n - 1; i < len(r.Samples); i += n {
			r.Samples[i] = 1<<h.Depth - 1
		}
	}
	return r
}

// rasterOf is a raster of a head, with a table, a cover (if there may be one, and it is asked for) and samples by chance.
func rasterOf(rnd *rand.Rand, h api.Head, covered bool) api.Raster {
	r := api.Raster{Head: h}
	end := 1 << h.Depth
	n := perPixel(h.Color)
	if h.Color == 3 {
		end = 1 + rnd.Intn(end)
		r.Tints = tintsOf(end)
	}
	r.Samples = some(rnd, h.W*h.H*n, end)
	switch {
	case covered && h.Color == 3:
		r.Alpha = some(rnd, 1+rnd.Intn(end), 256)
	case covered && (h.Color == 0 || h.Color == 2):
		// One of the pixels' own, so that it is met.
		at := rnd.Intn(h.W*h.H) * n
		r.Clear = slices.Clone(r.Samples[at : at+n])
	}
	return r
}

// smooth is a raster whose samples rise from the left and from the top: a picture that filters and copies are for.
func smooth(h api.Head) api.Raster {
	r := api.Raster{Head: h}
	if h.Color == 3 {
		r.Tints = tintsOf(1 << h.Depth)
	}
	for i := range h.W * h.H {
		for j := range perPixel(h.Color) {
			r.Samples = append(r.Samples, (i%h.W*(j+1)+i/h.W*2)%(1<<h.Depth))
		}
	}
	return r
}

// listedOf is a raster that may be a GIF: of n colours, of which the one at bare covers nothing (-1: none does), with samples by chance.
func listedOf(rnd *rand.Rand, w, h int, laced bool, n, bare int) api.Raster {
	r := api.Raster{Head: api.Head{W: w, H: h, Color: 3, Depth: 8, Laced: laced}, Tints: tintsOf(n), Samples: some(rnd, w*h, n)}
	if bare >= 0 {
		r.Alpha = append(slices.Repeat([]int{255}, bare), 0)
	}
	return r
}

// grey is a raster of grey samples of eight bits.
func grey(w, h int, laced bool, samples ...int) api.Raster {
	return api.Raster{Head: api.Head{W: w, H: h, Depth: 8, Laced: laced}, Samples: samples}
}

// plain is a raster of three colours that may be a GIF.
func plain(w, h int, laced bool, samples ...int) api.Raster {
	return api.Raster{Head: api.Head{W: w, H: h, Color: 3, Depth: 8, Laced: laced}, Tints: tintsOf(3), Samples: samples}
}

// copied is a raster that shares nothing with r.
func copied(r api.Raster) api.Raster {
	r.Tints, r.Alpha, r.Clear, r.Samples = slices.Clone(r.Tints), slices.Clone(r.Alpha), slices.Clone(r.Clear), slices.Clone(r.Samples)
	return r
}

func sameRaster(a, b api.Raster) bool {
	return a.Head == b.Head && slices.Equal(a.Tints, b.Tints) && slices.Equal(a.Alpha, b.Alpha) && slices.Equal(a.Clear, b.Clear) && slices.Equal(a.Samples, b.Samples)
}

func sameImage(a, b api.Image) bool {
	return a.W == b.W && a.H == b.H && slices.Equal(a.Pix, b.Pix)
}

func sameLine(a, b api.Line) bool {
	return a.Pass == b.Pass && slices.Equal(a.Spots, b.Spots) && slices.Equal(a.Cols, b.Cols)
}

func sameLines(a, b []api.Line) bool { return slices.EqualFunc(a, b, sameLine) }

// painted is lines with the colours of a raster.
func painted(r api.Raster, lines []api.Line) []api.Line {
	m := must(pixel.Image(r))
	for i, l := range lines {
		for _, s := range l.Spots {
			lines[i].Cols = append(lines[i].Cols, m.Pix[s.Y*m.W+s.X])
		}
	}
	return lines
}

// faulty is a raster that may not be, and why.
type faulty struct {
	name   string
	raster api.Raster
	e      api.Errno
}

// changed is a raster with a change.
func changed(r api.Raster, change func(*api.Raster)) api.Raster {
	r = copied(r)
	change(&r)
	return r
}

// faults are rasters that may not be: each error of layer 15's Check, by each way to it.
func faults() (list []faulty) {
	gray, few := grey(2, 2, false, 1, 2, 3, 4), plain(2, 2, true, 0, 1, 2, 0)
	full := api.Raster{Head: api.Head{W: 1, H: 2, Color: 2, Depth: 8}, Samples: make([]int, 6)}
	both := api.Raster{Head: api.Head{W: 1, H: 2, Color: 4, Depth: 16}, Samples: make([]int, 4)}
	all := api.Raster{Head: api.Head{W: 1, H: 2, Color: 6, Depth: 8}, Samples: make([]int, 8)}
	add := func(name string, e api.Errno, r api.Raster, change func(*api.Raster)) {
		list = append(list, faulty{name, changed(r, change), e})
	}
	add("no head", api.ErrHead, api.Raster{}, func(*api.Raster) {})
	add("no width", api.ErrHead, gray, func(r *api.Raster) { r.Head.W = 0 })
	add("height below 0", api.ErrHead, few, func(r *api.Raster) { r.Head.H = -2 })
	add("too wide", api.ErrHead, gray, func(r *api.Raster) { r.Head.W, r.Head.H, r.Samples = 2049, 1, make([]int, 2049) })
	add("too high", api.ErrHead, few, func(r *api.Raster) { r.Head.W, r.Head.H, r.Samples = 1, 2049, make([]int, 2049) })
	add("too many pixels", api.ErrHead, few, func(r *api.Raster) { r.Head.W, r.Head.H, r.Samples = 257, 256, make([]int, 257*256) })
	add("sides whose product is beyond a number", api.ErrHead, few, func(r *api.Raster) { r.Head.W, r.Head.H = 1<<32, 1<<32 })
	add("no such kind", api.ErrHead, gray, func(r *api.Raster) { r.Head.Color = 1 })
	add("kind below 0", api.ErrHead, gray, func(r *api.Raster) { r.Head.Color = -1 })
	add("depth of another kind", api.ErrHead, few, func(r *api.Raster) { r.Head.Depth = 16 })
	add("no depth", api.ErrHead, gray, func(r *api.Raster) { r.Head.Depth = 0 })
	add("head and table", api.ErrHead, few, func(r *api.Raster) { r.Head.W, r.Tints = 0, nil })

	add("no table", api.ErrPalette, few, func(r *api.Raster) { r.Tints = nil })
	add("too many colours", api.ErrPalette, few, func(r *api.Raster) { r.Tints = tintsOf(257) })
	add("too many colours of a bit", api.ErrPalette, few, func(r *api.Raster) { r.Head.Depth = 1 })
	add("a table of grey", api.ErrPalette, gray, func(r *api.Raster) { r.Tints = tintsOf(1) })
	add("a table of all colours", api.ErrPalette, full, func(r *api.Raster) { r.Tints = tintsOf(2) })
	add("more Alpha than colours", api.ErrPalette, few, func(r *api.Raster) { r.Alpha = []int{255, 255, 255, 255} })
	add("an Alpha too great", api.ErrPalette, few, func(r *api.Raster) { r.Alpha = []int{256} })
	add("an Alpha below 0", api.ErrPalette, few, func(r *api.Raster) { r.Alpha = []int{255, -1} })
	add("an Alpha of grey", api.ErrPalette, gray, func(r *api.Raster) { r.Alpha = []int{255} })
	add("a Clear of a table", api.ErrPalette, few, func(r *api.Raster) { r.Clear = []int{0} })
	add("two Clear of grey", api.ErrPalette, gray, func(r *api.Raster) { r.Clear = []int{1, 2} })
	add("a Clear too great", api.ErrPalette, gray, func(r *api.Raster) { r.Clear = []int{256} })
	add("a Clear below 0", api.ErrPalette, full, func(r *api.Raster) { r.Clear = []int{0, 0, -1} })
	add("one Clear of all colours", api.ErrPalette, full, func(r *api.Raster) { r.Clear = []int{1} })
	add("a Clear of grey and cover", api.ErrPalette, both, func(r *api.Raster) { r.Clear = []int{1} })
	add("a Clear of colours and cover", api.ErrPalette, all, func(r *api.Raster) { r.Clear = []int{1, 1, 1} })
	add("table and samples", api.ErrPalette, few, func(r *api.Raster) { r.Tints, r.Samples = nil, nil })

	add("no samples", api.ErrArg, gray, func(r *api.Raster) { r.Samples = nil })
	add("one too few", api.ErrArg, few, func(r *api.Raster) { r.Samples = r.Samples[:3] })
	add("one too many", api.ErrArg, all, func(r *api.Raster) { r.Samples = make([]int, 9) })
	add("too great a sample", api.ErrArg, gray, func(r *api.Raster) { r.Samples[3] = 256 })
	add("a sample below 0", api.ErrArg, both, func(r *api.Raster) { r.Samples[0] = -1 })
	add("too great a sample of 16 bits", api.ErrArg, both, func(r *api.Raster) { r.Samples[2] = 65536 })
	add("too great a number of a colour", api.ErrArg, few, func(r *api.Raster) { r.Samples[1], r.Samples[0] = 256, 3 })

	add("no colour's number", api.ErrIndex, few, func(r *api.Raster) { r.Samples[2] = 3 })
	add("the last number", api.ErrIndex, few, func(r *api.Raster) { r.Samples[3] = 255 })
	return list
}
