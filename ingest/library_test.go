package ingest

import (
	"bytes"
	"image"
	"image/color"
	librarygif "image/gif"
	librarypng "image/png"
	"io"
	"math/rand"
	"testing"

	"halftone/api"
	"halftone/pixel"
)

// theirs holds what the library reads of a file against the image of its raster.
func theirs(t *testing.T, b []byte, r api.Raster, decode func(io.Reader) (image.Image, error)) {
	t.Helper()
	m, err := decode(bytes.NewReader(b))
	if err != nil {
		t.Fatal(r.Head, err)
	}
	want := must(pixel.Image(r))
	if size := m.Bounds().Size(); size.X != want.W || size.Y != want.H {
		t.Fatal(r.Head, size)
	}
	for i, c := range want.Pix {
		gr, gg, gb, ga := m.At(i%want.W, i/want.W).RGBA()
		wr, wg, wb, wa := color.NRGBA64{R: c.R, G: c.G, B: c.B, A: c.A}.RGBA()
		if gr != wr || gg != wg || gb != wb || ga != wa {
			t.Fatal(r.Head, i, m.At(i%want.W, i/want.W), c)
		}
	}
}

func TestP21_2LibraryReads(t *testing.T) {
	rnd := rand.New(rand.NewSource(381))
	for i := range len(kinds) * 24 {
		r := rasterOf(rnd, headOf(i, 1+rnd.Intn(30), 1+rnd.Intn(30), rnd.Intn(2) == 0), rnd.Intn(2) == 0)
		theirs(t, must(Png(r, rnd.Intn(4), rnd.Intn(6), 1+rnd.Intn(200))), r, librarypng.Decode)
	}
}

func TestP21_3LibraryReads(t *testing.T) {
	rnd := rand.New(rand.NewSource(382))
	for n := 1; n <= 256; n++ {
		r := listedOf(rnd, 1+rnd.Intn(60), 1+rnd.Intn(60), n%2 == 0, n, rnd.Intn(n+1)-1)
		theirs(t, must(Gif(r, rnd.Intn(3), 1+rnd.Intn(255))), r, librarygif.Decode)
	}
	for _, late := range []int{0, 1, 1000, 1 << 40} {
		r := listedOf(rnd, 256, 100, true, 256, 3)
		theirs(t, must(Gif(r, late, 255)), r, librarygif.Decode)
	}
}
