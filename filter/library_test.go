package filter

import (
	"bytes"
	"compress/zlib"
	"image/color"
	"image/png"
	"math/rand"
	"testing"

	"halftone/api"
	"halftone/chunk"
	"halftone/head"
)

// file is a PNG whose rows are filtered by one kind, or by all of them in turn, if it is 5.
func file(t *testing.T, h api.Head, rows [][]byte, kind, step int) []byte {
	t.Helper()
	var data bytes.Buffer
	w := zlib.NewWriter(&data)
	var above []byte
	for i, row := range rows {
		k := kind
		if kind == 5 {
			k = i % 5
		}
		b, e := Do(k, row, above, step)
		if e != api.OK {
			t.Fatal(e)
		}
		w.Write(append([]byte{byte(k)}, b...))
		above = row
	}
	w.Close()
	ihdr, e := head.Write(h)
	if e != api.OK {
		t.Fatal(e)
	}
	out, e := chunk.Pack([]api.Chunk{{Kind: "IHDR", Data: ihdr}, {Kind: "IDAT", Data: data.Bytes()}, {Kind: "IEND"}})
	if e != api.OK {
		t.Fatal(e)
	}
	return out
}

// pixel is the samples of a pixel as its bytes tell them, each of 16 bits.
func pixel(h api.Head, b []byte) (r, g, bl, a uint16) {
	var v []uint16
	for i := 0; i < len(b); i += h.Depth / 8 {
		if h.Depth == 8 {
			v = append(v, uint16(b[i])*257)
		} else {
			v = append(v, uint16(b[i])<<8|uint16(b[i+1]))
		}
	}
	switch h.Color {
	case 0:
		return v[0], v[0], v[0], 65535
	case 2:
		return v[0], v[1], v[2], 65535
	case 4:
		return v[0], v[0], v[0], v[1]
	}
	return v[0], v[1], v[2], v[3]
}

// four is a colour as the library tells it, of whichever kind it is.
func four(c color.Color) [4]uint32 {
	r, g, b, a := c.RGBA()
	return [4]uint32{r, g, b, a}
}

// The library reads what Do has filtered as it was.
func TestP13_2LibraryUndoes(t *testing.T) {
	rnd := rand.New(rand.NewSource(136))
	const wide, high = 9, 11
	for _, h := range []api.Head{{Color: 0, Depth: 8}, {Color: 0, Depth: 16}, {Color: 2, Depth: 8}, {Color: 4, Depth: 8}, {Color: 4, Depth: 16}, {Color: 6, Depth: 8}, {Color: 2, Depth: 16}, {Color: 6, Depth: 16}} {
		h.W, h.H = wide, high
		step := head.Samples(h.Color) * h.Depth / 8
		for kind := range 6 {
			var rows [][]byte
			for range high {
				rows = append(rows, some(rnd, wide*step, 256))
			}
			m, err := png.Decode(bytes.NewReader(file(t, h, rows, kind, step)))
			if err != nil {
				t.Fatal(h, kind, err)
			}
			for y := range high {
				for x := range wide {
					r, g, b, a := pixel(h, rows[y][x*step:(x+1)*step])
					want := color.NRGBA64{R: r, G: g, B: b, A: a}
					if four(m.At(x, y)) != four(want) {
						t.Fatal(h, kind, x, y, m.At(x, y), want)
					}
				}
			}
		}
	}
}
