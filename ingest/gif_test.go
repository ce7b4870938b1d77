package ingest

import (
	"bytes"
	"math"
	"math/rand"
	"slices"
	"testing"

	"halftone/api"
	"halftone/pixel"
	"halftone/screen"
)

// asSlowGif holds Gif against the slow writer.
func asSlowGif(t *testing.T, r api.Raster, late, size int) []byte {
	t.Helper()
	want, wrong := slowGif(r, late, size)
	got, e := Gif(r, late, size)
	if e != wrong || !bytes.Equal(got, want) {
		t.Fatal(r.Head, len(r.Tints), r.Alpha, late, size, e, len(got), "not", wrong, len(want))
	}
	return got
}

// refusedGif asks for an error, and for nothing beside it.
func refusedGif(t *testing.T, r api.Raster, late, size int, want api.Errno) {
	t.Helper()
	if b, e := Gif(r, late, size); e != want || len(b) != 0 {
		t.Fatal(r.Head, len(r.Tints), r.Alpha, late, size, len(b), e, "not", want)
	}
}

func TestP21_1GifExample(t *testing.T) {
	r := api.Raster{Head: api.Head{W: 1, H: 1, Color: 3, Depth: 8}, Tints: []api.Tint{{}}, Samples: []int{0}}
	want := slices.Concat([]byte("GIF89a"), []byte{1, 0, 1, 0, 240, 0, 0}, make([]byte, 6), []byte{44, 0, 0, 0, 0, 1, 0, 1, 0, 0, 2, 2, 68, 1, 0, 59})
	if b, e := Gif(r, 0, 9); e != api.OK || !bytes.Equal(b, want) {
		t.Error(b, e)
	}
}

// A file, byte by byte: laced, of three colours of which the second covers nothing, in blocks of one byte.
func TestP21_1GifByHand(t *testing.T) {
	tints := []api.Tint{{R: 1, G: 2, B: 3}, {R: 4, G: 5, B: 6}, {R: 7, G: 8, B: 9}}
	r := api.Raster{Head: api.Head{W: 1, H: 5, Color: 3, Depth: 8, Laced: true}, Tints: tints, Alpha: []int{255, 0, 255}, Samples: []int{0, 0, 1, 2, 2}}
	want := slices.Concat([]byte("GIF89a"), []byte{1, 0, 5, 0, 241, 0, 0}, []byte{1, 2, 3, 4, 5, 6, 7, 8, 9, 0, 0, 0},
		[]byte{33, 249, 4, 1, 0, 0, 1, 0}, []byte{44, 0, 0, 0, 0, 1, 0, 5, 0, 64, 2},
		// The rows 0, 4, 2, 1, 3 are 0 2 1 0 2; of that the codes are 4, 0, 2, 1, 6, 5 of 3, 3, 3, 3, 4, 4 bits.
		[]byte{1, 0b10_000_100, 1, 0b0110_001_0, 1, 0b0101}, []byte{0, 59})
	if b, e := Gif(r, 0, 1); e != api.OK || !bytes.Equal(b, want) {
		t.Error(b, e, "not", want)
	}
}

// Arguments just outside of what may be, and far outside, of rasters that may be a GIF, that may be none, and that may not be.
func TestP21_1GifArguments(t *testing.T) {
	good := plain(2, 2, true, 0, 1, 2, 0)
	rasters := []api.Raster{good, grey(2, 2, true, 1, 2, 3, 4), changed(good, func(r *api.Raster) { r.Alpha = []int{0, 0} })}
	for _, f := range faults() {
		rasters = append(rasters, f.raster)
	}
	for _, r := range rasters {
		for _, late := range []int{-1, -2, -4096, -1 << 32, math.MinInt} {
			refusedGif(t, r, late, 9, api.ErrArg)
			refusedGif(t, r, late, 0, api.ErrArg)
		}
		for _, size := range []int{0, -1, 256, 257, 1 << 16, 1 << 32, math.MinInt, math.MaxInt} {
			refusedGif(t, r, 0, size, api.ErrArg)
			refusedGif(t, r, 7, size, api.ErrArg)
		}
	}
	for _, late := range []int{0, 1, 2, 5000, math.MaxInt} {
		for _, size := range []int{1, 2, 254, 255} {
			if _, e := Gif(good, late, size); e != api.OK {
				t.Fatal(late, size, e)
			}
			asSlowGif(t, good, late, size)
		}
	}
}

// Each error of layer 15's Check, ahead of those of a raster that may be, but be no GIF.
func TestP21_1GifRasters(t *testing.T) {
	for _, f := range faults() {
		if e := pixel.Check(f.raster); e != f.e {
			t.Fatal(f.name, e)
		}
		for _, late := range []int{0, 1, 99} {
			for _, size := range []int{1, 255} {
				if b, e := Gif(f.raster, late, size); e != f.e || len(b) != 0 {
					t.Fatal(f.name, len(b), e, "not", f.e)
				}
			}
		}
	}
	// Samples that are none count ahead of a kind, and of an Alpha, that a GIF doesn't have.
	few := plain(2, 1, false, 0, 3)
	few.Alpha = []int{0, 7}
	refusedGif(t, few, 0, 9, api.ErrIndex)
	refusedGif(t, grey(2, 1, false, 0, 256), 0, 9, api.ErrArg)
}

// Kinds and depths that are not 3 and 8, also with an Alpha that would be refused.
func TestP21_1GifKinds(t *testing.T) {
	rnd := rand.New(rand.NewSource(311))
	for i, k := range kinds {
		for _, laced := range []bool{false, true} {
			r := opaque(rnd, headOf(i, 3, 2, laced))
			if k == [2]int{3, 8} {
				asSlowGif(t, r, 0, 9)
				continue
			}
			refusedGif(t, r, 0, 9, api.ErrHead)
			if k[0] == 3 {
				r.Alpha = []int{0, 0}
				refusedGif(t, r, 0, 9, api.ErrHead)
				r.Alpha = []int{7}
				refusedGif(t, r, 0, 9, api.ErrHead)
			}
		}
	}
}

// What Alphas may be: none, such as are all 255, and one 0 among them.
func TestP21_1GifAlphas(t *testing.T) {
	r := plain(2, 2, false, 0, 1, 2, 0)
	for _, x := range []struct {
		alpha []int
		bare  int
		e     api.Errno
	}{
		{nil, -1, api.OK},
		{[]int{}, -1, api.OK},
		{[]int{255}, -1, api.OK},
		{[]int{255, 255, 255}, -1, api.OK},
		{[]int{0}, 0, api.OK},
		{[]int{0, 255, 255}, 0, api.OK},
		{[]int{255, 0}, 1, api.OK},
		{[]int{255, 0, 255}, 1, api.OK},
		{[]int{255, 255, 0}, 2, api.OK},
		{[]int{0, 0}, 0, api.ErrPalette},
		{[]int{0, 255, 0}, 0, api.ErrPalette},
		{[]int{0, 0, 0}, 0, api.ErrPalette},
		{[]int{1}, 0, api.ErrPalette},
		{[]int{254}, 0, api.ErrPalette},
		{[]int{255, 255, 128}, 0, api.ErrPalette},
		{[]int{0, 254}, 0, api.ErrPalette},
		{[]int{254, 0}, 0, api.ErrPalette},
		{[]int{7, 7, 7}, 0, api.ErrPalette},
	} {
		r.Alpha = x.alpha
		b := asSlowGif(t, r, 0, 9)
		_, e := Gif(r, 0, 9)
		if e != x.e {
			t.Fatal(x.alpha, e, "not", x.e)
		}
		if e != api.OK {
			refusedGif(t, r, 0, 9, x.e)
			continue
		}
		if s, _, e := screen.Read(b); e != api.OK || s.Clear != x.bare {
			t.Fatal(x.alpha, s.Clear, e)
		}
	}
	// Every number, beside 255 and alone.
	for v := range 256 {
		for _, alpha := range [][]int{{v}, {255, v}, {v, 255, 255}, {255, 255, v}} {
			r.Alpha = alpha
			asSlowGif(t, r, 0, 9)
			if _, e := Gif(r, 0, 9); (e == api.OK) != (v == 0 || v == 255) {
				t.Fatal(alpha, e)
			}
		}
	}
}

// One to 256 colours: as many as a table may have, black ones behind them, and the least bits.
func TestP21_1GifTints(t *testing.T) {
	rnd := rand.New(rand.NewSource(312))
	sizes := map[int]int{1: 2, 2: 2, 3: 4, 4: 4, 5: 8, 8: 8, 9: 16, 16: 16, 17: 32, 32: 32, 33: 64, 64: 64, 65: 128, 128: 128, 129: 256, 255: 256, 256: 256}
	least := map[int]int{1: 2, 2: 2, 3: 2, 4: 2, 5: 3, 8: 3, 9: 4, 16: 4, 17: 5, 32: 5, 33: 6, 64: 6, 65: 7, 128: 7, 129: 8, 255: 8, 256: 8}
	for n := 1; n <= 256; n++ {
		for _, bare := range []int{-1, 0, n - 1} {
			r := listedOf(rnd, 5, 4, n%2 == 0, n, bare)
			r.Samples[7] = n - 1
			b := asSlowGif(t, r, 0, 255)
			s, _, e := screen.Read(b)
			if e != api.OK || s.W != 5 || s.H != 4 || s.Local || s.Laced != (n%2 == 0) || s.Clear != bare {
				t.Fatal(n, s, e)
			}
			if !slices.Equal(s.Tints[:n], r.Tints) || slices.ContainsFunc(s.Tints[n:], func(c api.Tint) bool { return c != (api.Tint{}) }) {
				t.Fatal(n, s.Tints)
			}
			if want, ok := sizes[n]; ok && (len(s.Tints) != want || s.Bits != least[n]) {
				t.Fatal(n, len(s.Tints), s.Bits, "not", want, least[n])
			}
		}
	}
}

// Sides of all kinds, laced and not, with blocks of many sizes.
func TestP21_1GifSides(t *testing.T) {
	rnd := rand.New(rand.NewSource(313))
	for _, side := range slices.Concat(sides, [][2]int{{2048, 1}, {1, 2048}, {31, 33}, {256, 2}}) {
		for _, laced := range []bool{false, true} {
			for _, size := range []int{1, 2, 100, 254, 255} {
				n := 1 + rnd.Intn(256)
				asSlowGif(t, listedOf(rnd, side[0], side[1], laced, n, rnd.Intn(n+1)-1), rnd.Intn(3), size)
			}
		}
	}
}

// Clears come as late as is asked for: the files are others, as soon as a table is full.
func TestP21_1GifLate(t *testing.T) {
	rnd := rand.New(rand.NewSource(314))
	for _, n := range []int{2, 30, 256} {
		r := listedOf(rnd, 200, 150, true, n, -1)
		files := map[string]int{}
		for _, late := range []int{0, 1, 2, 700, 3840, math.MaxInt} {
			files[string(asSlowGif(t, r, late, 200))] = late
		}
		if n == 256 && len(files) != 6 {
			t.Error(n, len(files))
		}
	}
}

// Arguments and rasters by chance, most of them near to what may be.
func TestP21_1GifAny(t *testing.T) {
	rnd := rand.New(rand.NewSource(315))
	met := map[api.Errno]int{}
	for range 6000 {
		n := 1 + rnd.Intn(256)
		r := spoilt(rnd, listedOf(rnd, 1+rnd.Intn(6), 1+rnd.Intn(6), rnd.Intn(2) == 0, n, rnd.Intn(n+1)-1))
		late, size := rnd.Intn(3), 1+rnd.Intn(255)
		switch rnd.Intn(12) {
		case 0:
			late = rnd.Intn(9) - 6
		case 1:
			size = rnd.Intn(5) - 3
		case 2:
			size = 254 + rnd.Intn(5)
		}
		asSlowGif(t, r, late, size)
		_, e := Gif(r, late, size)
		met[e]++
	}
	for _, e := range []api.Errno{api.OK, api.ErrArg, api.ErrHead, api.ErrPalette, api.ErrIndex} {
		if met[e] == 0 {
			t.Error("no raster with", e)
		}
	}
}
