package ingest

import (
	"bytes"
	"math"
	"math/rand"
	"slices"
	"testing"

	"halftone/api"
	"halftone/filter"
	"halftone/front"
	"halftone/pixel"
	"halftone/zlib"
)

// asSlowPng holds Png against the slow writer.
func asSlowPng(t *testing.T, r api.Raster, how, kind, size int) []byte {
	t.Helper()
	want, wrong := slowPng(r, how, kind, size)
	got, e := Png(r, how, kind, size)
	if e != wrong || !bytes.Equal(got, want) {
		t.Fatal(r.Head, how, kind, size, e, len(got), "not", wrong, len(want))
	}
	return got
}

// refusedPng asks for an error, and for nothing beside it.
func refusedPng(t *testing.T, r api.Raster, how, kind, size int, want api.Errno) {
	t.Helper()
	if b, e := Png(r, how, kind, size); e != want || len(b) != 0 {
		t.Fatal(r.Head, how, kind, size, len(b), e, "not", want)
	}
}

// The first example of the whole document: its data are 13 bytes, in two IDATs if they have from 7 to 12 bytes, in one if they may have more.
func TestP21_1PngExample(t *testing.T) {
	white := api.Color{R: 65535, G: 65535, B: 65535, A: 65535}
	one := grey(1, 1, false, 255)
	for _, x := range []struct {
		size  int
		kinds string
	}{{7, "IHDR IDAT IDAT IEND "}, {12, "IHDR IDAT IDAT IEND "}, {13, "IHDR IDAT IEND "}, {6, "IHDR IDAT IDAT IDAT IEND "}} {
		b := must(Png(one, 0, 0, x.size))
		list, err := taken(b)
		all := ""
		for _, p := range list {
			all += p.kind + " "
		}
		if err != nil || all != x.kinds {
			t.Error(all, err, "not", x.kinds)
		}
		if m, e := front.Check(b); e != api.OK || !sameImage(m, api.Image{W: 1, H: 1, Pix: []api.Color{white}}) {
			t.Error(m, e)
		}
	}
}

// Two files, byte by byte. (The chunks' sums are worked out by the library.)
func TestP21_1PngByHand(t *testing.T) {
	got := must(Png(grey(1, 2, false, 9, 12), 0, 2, api.MaxFile))
	want := slices.Concat(eight,
		part("IHDR", 0, 0, 0, 1, 0, 0, 0, 2, 8, 0, 0, 0, 0),
		// The lines' bytes are 2 9 2 3: with 1 ahead of them they rise to 17, and 3, 12, 14 and 17 are together 46.
		part("IDAT", 120, 1, 1, 4, 0, 251, 255, 2, 9, 2, 3, 0, 46, 0, 17),
		[]byte{0, 0, 0, 0, 73, 69, 78, 68, 174, 66, 96, 130})
	if !bytes.Equal(got, want) {
		t.Error(got, "not", want)
	}
	tints := []api.Tint{{R: 1, G: 2, B: 3}, {R: 4, G: 5, B: 6}, {R: 7, G: 8, B: 9}}
	r := api.Raster{Head: api.Head{W: 3, H: 2, Color: 3, Depth: 2, Laced: true}, Tints: tints, Alpha: []int{255, 0}, Samples: []int{0, 1, 2, 2, 1, 0}}
	got = must(Png(r, 0, 0, 10))
	// The lines are (0, 0), (2, 0), (1, 0) and the second row, 10 01 00 and two bits that fill it up.
	data := []byte{120, 1, 1, 8, 0, 247, 255, 0, 0b00000000, 0, 0b10000000, 0, 0b01000000, 0, 0b10010000, 3, 216, 1, 81}
	want = slices.Concat(eight,
		part("IHDR", 0, 0, 0, 3, 0, 0, 0, 2, 2, 3, 0, 0, 1),
		part("PLTE", 1, 2, 3, 4, 5, 6, 7, 8, 9),
		part("tRNS", 255, 0),
		part("IDAT", data[:10]...),
		part("IDAT", data[10:]...),
		part("IEND"))
	if !bytes.Equal(got, want) {
		t.Error(got, "not", want)
	}
}

// Arguments just outside of what may be, and far outside, by themselves, with others, and of rasters that may not be.
func TestP21_1PngArguments(t *testing.T) {
	rasters := []api.Raster{grey(2, 2, true, 1, 2, 3, 4), plain(2, 1, false, 0, 2)}
	for _, f := range faults() {
		rasters = append(rasters, f.raster)
	}
	for _, r := range rasters {
		for _, v := range []int{-1, 4, 5, -3, 1 << 32, math.MinInt, math.MaxInt} {
			refusedPng(t, r, v, 0, 7, api.ErrArg)
			refusedPng(t, r, v, 6, 0, api.ErrArg)
		}
		for _, v := range []int{-1, 6, 7, -5, 1 << 32, math.MinInt, math.MaxInt} {
			refusedPng(t, r, 3, v, 7, api.ErrArg)
			refusedPng(t, r, 0, v, api.MaxFile, api.ErrArg)
		}
		for _, v := range []int{0, -1, api.MaxFile + 1, 1 << 32, math.MinInt, math.MaxInt} {
			refusedPng(t, r, 3, 5, v, api.ErrArg)
			refusedPng(t, r, 0, 0, v, api.ErrArg)
		}
	}
	// Just inside.
	for _, r := range rasters[:2] {
		for how := range 4 {
			for kind := range 6 {
				for _, size := range []int{1, 2, api.MaxFile - 1, api.MaxFile} {
					asSlowPng(t, r, how, kind, size)
				}
			}
		}
	}
}

// Each error of layer 15's Check.
func TestP21_1PngRasters(t *testing.T) {
	for _, f := range faults() {
		if e := pixel.Check(f.raster); e != f.e {
			t.Fatal(f.name, e)
		}
		for how := range 4 {
			for kind := range 6 {
				for _, size := range []int{1, 64, api.MaxFile} {
					if b, e := Png(f.raster, how, kind, size); e != f.e || len(b) != 0 {
						t.Fatal(f.name, how, kind, size, len(b), e, "not", f.e)
					}
				}
			}
		}
	}
}

// Every kind of colours, depth and size, laced and not, with and without what covers nothing: each how and kind, in IDATs of many sizes.
func TestP21_1PngEveryKind(t *testing.T) {
	t.Parallel()
	rnd := rand.New(rand.NewSource(301))
	for i := range kinds {
		for _, side := range sides {
			for _, laced := range []bool{false, true} {
				for _, covered := range []bool{false, true} {
					h := headOf(i, side[0], side[1], laced)
					r := rasterOf(rnd, h, covered)
					for how := range 4 {
						asSlowPng(t, r, how, rnd.Intn(6), 1+rnd.Intn(70))
					}
					for kind := range 6 {
						asSlowPng(t, r, rnd.Intn(4), kind, 1+rnd.Intn(70))
						asSlowPng(t, smooth(h), rnd.Intn(4), kind, 1+rnd.Intn(70))
					}
				}
			}
		}
	}
}

// The chunks are just those that are named, in their order, and each says what it must.
func TestP21_1PngChunks(t *testing.T) {
	rnd := rand.New(rand.NewSource(302))
	for i := range len(kinds) * 8 {
		r := rasterOf(rnd, headOf(i, 1+rnd.Intn(12), 1+rnd.Intn(12), i%2 == 0), i%3 > 0)
		size := 1 + rnd.Intn(40)
		how, kind := rnd.Intn(4), rnd.Intn(6)
		list, err := taken(must(Png(r, how, kind, size)))
		if err != nil {
			t.Fatal(err)
		}
		want := []string{"IHDR"}
		if r.Head.Color == 3 {
			want = append(want, "PLTE")
		}
		if len(r.Alpha)+len(r.Clear) > 0 {
			want = append(want, "tRNS")
		}
		for j, kind := range want {
			if list[j].kind != kind {
				t.Fatal(list[j].kind, "not", kind)
			}
		}
		last := len(list) - 1
		if list[last].kind != "IEND" || len(list[last].data) != 0 {
			t.Fatal(list[last])
		}
		wrapped := dataOf(t, list[len(want):last], size)
		text, err := unwrapped(wrapped)
		if err != nil || !bytes.Equal(text, slowText(r, kind)) || !bytes.Equal(wrapped, must(zlib.Pack(text, how))) {
			t.Fatal(r.Head, how, kind, err)
		}
	}
}

// dataOf is the data of IDATs, which must have size bytes each, but for the last one, which must have some.
func dataOf(t *testing.T, list []piece, size int) (all []byte) {
	t.Helper()
	for i, p := range list {
		n := len(p.data)
		if p.kind != "IDAT" || n < 1 || n > size || i < len(list)-1 && n != size {
			t.Fatal(i, p.kind, n, "not", size)
		}
		all = append(all, p.data...)
	}
	return all
}

// Sizes of 1, of less than the wrapped bytes have, of just as many, of parts of them without a rest, and of more.
func TestP21_1PngSizes(t *testing.T) {
	rnd := rand.New(rand.NewSource(303))
	for i := range kinds {
		r := rasterOf(rnd, headOf(i, 7, 6, i%2 == 0), true)
		for how := range 4 {
			wrapped := must(zlib.Pack(slowText(r, 4), how))
			n := len(wrapped)
			for _, size := range []int{1, 2, 3, n / 3, (n + 1) / 2, n/2 + 1, n - 1, n, n + 1, 2 * n, 65536, api.MaxFile} {
				list, err := taken(asSlowPng(t, r, how, 4, size))
				if err != nil {
					t.Fatal(err)
				}
				from := slices.IndexFunc(list, func(p piece) bool { return p.kind == "IDAT" })
				data := list[from : len(list)-1]
				if len(data) != (n+size-1)/size || !bytes.Equal(dataOf(t, data, size), wrapped) {
					t.Fatal(size, n, len(data))
				}
			}
		}
	}
}

// Each line has the filter that was asked for, or the one that layer 13 chooses; all five are chosen.
func TestP21_1PngFilters(t *testing.T) {
	rnd := rand.New(rand.NewSource(304))
	met := map[byte]int{}
	for i := range len(kinds) * 12 {
		h := headOf(i, 1+rnd.Intn(20), 1+rnd.Intn(20), i%2 == 0)
		r := smooth(h)
		if i%3 == 0 {
			r = rasterOf(rnd, h, false)
		}
		for kind := range 6 {
			list, err := taken(must(Png(r, 1, kind, api.MaxFile)))
			if err != nil {
				t.Fatal(err)
			}
			text, err := unwrapped(list[len(list)-2].data)
			if err != nil {
				t.Fatal(err)
			}
			var above []byte
			pass := 0
			for _, l := range pngLines(h) {
				row := must(pixel.Pack(samplesOf(r, l), h.Depth))
				if l.Pass != pass {
					pass, above = l.Pass, nil
				}
				want := kind
				if kind == 5 {
					want = must(filter.Choose(row, above, stepOf(h)))
					met[text[0]]++
				}
				if int(text[0]) != want || !bytes.Equal(must(filter.Undo(want, text[1:1+len(row)], above, stepOf(h))), row) {
					t.Fatal(h, kind, l.Pass, text[0], "not", want)
				}
				above, text = row, text[1+len(row):]
			}
			if len(text) != 0 {
				t.Fatal(len(text), "bytes behind the lines")
			}
		}
	}
	for kind := range byte(5) {
		if met[kind] == 0 {
			t.Error("never chosen:", kind)
		}
	}
}

// Lists that are empty mean the same as such as aren't there.
func TestP21_1PngEmptyLists(t *testing.T) {
	rnd := rand.New(rand.NewSource(305))
	for i := range kinds {
		r := rasterOf(rnd, headOf(i, 5, 4, true), false)
		want := asSlowPng(t, r, 3, 5, 20)
		if r.Tints == nil {
			r.Tints = []api.Tint{}
		}
		r.Alpha, r.Clear = []int{}, make([]int, 0, 9)
		if got, e := Png(r, 3, 5, 20); e != api.OK || !bytes.Equal(got, want) {
			t.Fatal(r.Head, e)
		}
	}
}

// Arguments and rasters by chance, most of them near to what may be.
func TestP21_1PngAny(t *testing.T) {
	rnd := rand.New(rand.NewSource(306))
	met := map[api.Errno]int{}
	for i := range 6000 {
		r := spoilt(rnd, rasterOf(rnd, headOf(i, 1+rnd.Intn(5), 1+rnd.Intn(5), rnd.Intn(2) == 0), rnd.Intn(2) == 0))
		how, kind, size := rnd.Intn(4), rnd.Intn(6), 1+rnd.Intn(99)
		switch rnd.Intn(12) {
		case 0:
			how = rnd.Intn(9) - 3
		case 1:
			kind = rnd.Intn(12) - 3
		case 2:
			size = rnd.Intn(5) - 3
		}
		asSlowPng(t, r, how, kind, size)
		_, e := Png(r, how, kind, size)
		met[e]++
	}
	for _, e := range []api.Errno{api.OK, api.ErrArg, api.ErrHead, api.ErrPalette, api.ErrIndex} {
		if met[e] == 0 {
			t.Error("no raster with", e)
		}
	}
}

// spoilt is a raster in which something may be another one.
func spoilt(rnd *rand.Rand, r api.Raster) api.Raster {
	for range rnd.Intn(3) {
		switch rnd.Intn(9) {
		case 0:
			r.Head.W = rnd.Intn(6) - 1
		case 1:
			r.Head.H += rnd.Intn(3) - 1
		case 2:
			r.Head.Color = rnd.Intn(9) - 1
		case 3:
			r.Head.Depth = rnd.Intn(18) - 1
		case 4:
			r.Tints = tintsOf(rnd.Intn(300))
		case 5:
			r.Alpha = some(rnd, rnd.Intn(4), 258)
		case 6:
			r.Clear = some(rnd, rnd.Intn(5), 300)
		case 7:
			r.Samples = some(rnd, rnd.Intn(30), 300)
		case 8:
			r.Samples[rnd.Intn(len(r.Samples))] = rnd.Intn(70000) - 2
		}
		if len(r.Samples) == 0 {
			break
		}
	}
	return r
}
