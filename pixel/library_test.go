package pixel

import (
	"bytes"
	"compress/zlib"
	"image/color"
	"image/png"
	"math/rand"
	"testing"

	"halftone/api"
	"halftone/chunk"
	"halftone/head"
)

// file is a PNG of a raster, its rows packed one by one, none of them filtered.
func file(t *testing.T, r api.Raster) []byte {
	t.Helper()
	ihdr, e := head.Write(r.Head)
	if e != api.OK {
		t.Fatal(e)
	}
	chunks := []api.Chunk{{Kind: "IHDR", Data: ihdr}}
	if len(r.Tints) > 0 {
		chunks = append(chunks, api.Chunk{Kind: "PLTE", Data: head.WriteTints(r.Tints)})
	}
	if len(r.Alpha)+len(r.Clear) > 0 {
		chunks = append(chunks, api.Chunk{Kind: "tRNS", Data: head.WriteClear(r.Head, r.Alpha, r.Clear)})
	}
	var data bytes.Buffer
	w := zlib.NewWriter(&data)
	wide := r.Head.W * perPixel(r.Head.Color)
	for y := range r.Head.H {
		b, e := Pack(r.Samples[y*wide:(y+1)*wide], r.Head.Depth)
		if e != api.OK {
			t.Fatal(e)
		}
		w.Write(append([]byte{0}, b...))
	}
	w.Close()
	out, e := chunk.Pack(append(chunks, api.Chunk{Kind: "IDAT", Data: data.Bytes()}, api.Chunk{Kind: "IEND"}))
	if e != api.OK {
		t.Fatal(e)
	}
	return out
}

// four is a colour as the library tells it, of whichever kind it is.
func four(c color.Color) [4]uint32 {
	r, g, b, a := c.RGBA()
	return [4]uint32{r, g, b, a}
}

// The library finds the same colours in a file of the samples.
func TestP15_1LibrarysColours(t *testing.T) {
	rnd := rand.New(rand.NewSource(156))
	kinds := map[api.Head]int{}
	for range 2000 {
		r := somewhat(rnd)
		r.Head.Laced = false
		kinds[api.Head{Color: r.Head.Color, Depth: r.Head.Depth}]++
		m, err := png.Decode(bytes.NewReader(file(t, r)))
		if err != nil {
			t.Fatal(show(r), err)
		}
		image, e := Image(r)
		if e != api.OK {
			t.Fatal(show(r), e)
		}
		for i, c := range image.Pix {
			got := m.At(i%r.Head.W, i/r.Head.W)
			if four(got) != four(color.NRGBA64{R: c.R, G: c.G, B: c.B, A: c.A}) {
				t.Fatal(show(r), i, c, got)
			}
		}
	}
	if len(kinds) != 15 {
		t.Error(kinds)
	}
}
