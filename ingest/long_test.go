package ingest

import (
	"math"
	"math/rand"
	"sort"
	"testing"

	"halftone/adam"
	"halftone/api"
	"halftone/front"
	"halftone/pixel"
)

// long is a head, and a size of IDATs.
type long struct {
	head api.Head
	size int
}

// storedLength is how many bytes a PNG has that is stored, if no pixel covers nothing.
func (l long) storedLength() int {
	text := adam.Bytes(l.head, perPixel(l.head.Color))
	wrapped := 2 + text + 5*((text+65534)/65535) + 4
	return 8 + 25 + wrapped + 12*((wrapped+l.size-1)/l.size) + 12
}

// ofLength is PNGs that have just so many bytes, of each kind of colours, laced and not, at most so many.
func ofLength(n, most int) (list []long) {
	for i := range 12 {
		k := [][2]int{{6, 16}, {2, 16}, {4, 16}, {0, 16}, {6, 8}, {2, 8}}[i/2]
		found := 0
		for high := 1; high <= api.MaxSide && found < most; high++ {
			for size := 1; size < 14 && found < most; size++ {
				of := func(w int) long {
					return long{api.Head{W: w, H: high, Color: k[0], Depth: k[1], Laced: i%2 == 0}, size}
				}
				widest := min(api.MaxSide, api.MaxPixels/high)
				w := 1 + sort.Search(widest, func(i int) bool { return of(i+1).storedLength() >= n })
				if w <= widest && of(w).storedLength() == n {
					list = append(list, of(w))
					found++
				}
			}
		}
	}
	return list
}

// A PNG of just MaxFile bytes is written, and of one less; one of a byte more isn't.
func TestP21_1PngLongest(t *testing.T) {
	t.Parallel()
	for _, n := range []int{api.MaxFile - 1, api.MaxFile, api.MaxFile + 1, api.MaxFile + 2} {
		list := ofLength(n, 2)
		if len(list) < 3 {
			t.Fatal(n, "only", list)
		}
		for _, l := range list[:3] {
			r := smooth(l.head)
			b, e := Png(r, 0, 1, l.size)
			if n > api.MaxFile {
				if e != api.ErrLong || len(b) != 0 {
					t.Fatal(l, n, len(b), e)
				}
				continue
			}
			if e != api.OK || len(b) != n {
				t.Fatal(l, n, len(b), e)
			}
			if m, e := front.Check(b); e != api.OK || !sameImage(m, must(pixel.Image(r))) {
				t.Fatal(l, n, e)
			}
		}
	}
}

// The table and what covers nothing count with the rest: with them a file is too long that isn't without them.
func TestP21_1PngLongByCover(t *testing.T) {
	met := 0
	for _, l := range ofLength(api.MaxFile, 2) {
		if l.head.Color != 0 && l.head.Color != 2 {
			continue
		}
		met++
		r := smooth(l.head)
		if b, e := Png(r, 0, 0, l.size); e != api.OK || len(b) != api.MaxFile {
			t.Fatal(l, len(b), e)
		}
		r.Clear = make([]int, perPixel(l.head.Color))
		refusedPng(t, r, 0, 0, l.size, api.ErrLong)
	}
	if met == 0 {
		t.Error("no such file")
	}
}

// Pictures as great as may be, in IDATs of few bytes, are too long, however they are packed, if nothing in them can be packed.
func TestP21_1PngTooLong(t *testing.T) {
	t.Parallel()
	rnd := rand.New(rand.NewSource(321))
	for i, side := range [][2]int{{256, 256}, {2048, 32}} {
		r := rasterOf(rnd, api.Head{W: side[0], H: side[1], Color: 6, Depth: 16, Laced: i == 1}, false)
		for how := range 4 {
			for _, size := range []int{1, 11} {
				refusedPng(t, r, how, rnd.Intn(6), size, api.ErrLong)
			}
		}
		// The error of a raster, and of an argument, counts ahead of that.
		refusedPng(t, r, 4, 0, 1, api.ErrArg)
		refusedPng(t, changed(r, func(r *api.Raster) { r.Samples[9] = 65536 }), 0, 0, 1, api.ErrArg)
		refusedPng(t, changed(r, func(r *api.Raster) { r.Clear = []int{1} }), 0, 0, 1, api.ErrPalette)
	}
	// What can be packed is written, however great it is.
	flat := api.Raster{Head: api.Head{W: 256, H: 256, Color: 6, Depth: 16}, Samples: make([]int, 4*65536)}
	refusedPng(t, flat, 0, 0, 1, api.ErrLong)
	for how := 1; how < 4; how++ {
		if b, e := Png(flat, how, 0, 1); e != api.OK || len(b) > api.MaxFile {
			t.Fatal(how, len(b), e)
		}
	}
}

// No GIF is too long: of the greatest ones each pixel has a code of at most 12 bits, and each of its bytes a block of its own.
func TestP21_1GifLongest(t *testing.T) {
	rnd := rand.New(rand.NewSource(322))
	for i, side := range [][2]int{{256, 256}, {2048, 32}, {32, 2048}} {
		r := listedOf(rnd, side[0], side[1], i > 0, 256, 255)
		for _, late := range []int{0, 100, math.MaxInt} {
			b := asSlowGif(t, r, late, 1)
			if len(b) > api.MaxFile/4 {
				t.Fatal(len(b))
			}
			if m, e := front.Check(b); e != api.OK || !sameImage(m, must(pixel.Image(r))) {
				t.Fatal(side, late, e)
			}
		}
	}
}
