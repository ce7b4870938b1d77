package adam

import (
	"bytes"
	stdlzw "compress/lzw"
	"compress/zlib"
	"image/gif"
	"image/png"
	"testing"

	"halftone/api"
	"halftone/blocks"
	"halftone/chunk"
	"halftone/head"
)

// value is a grey by which each place is known from those near it.
func value(x, y int) byte { return byte(x*7 + y*31) }

// The library finds each pixel at its place, laced or not, and as many bytes as Bytes says.
func TestP14_1LibraryReadsPNG(t *testing.T) {
	for _, side := range [][2]int{{1, 1}, {3, 2}, {4, 4}, {5, 5}, {8, 8}, {9, 9}, {1, 20}, {20, 1}, {33, 17}, {256, 256}} {
		for _, laced := range []bool{false, true} {
			h := api.Head{W: side[0], H: side[1], Depth: 8, Laced: laced}
			var rows []byte
			for _, spots := range Lines(h.W, h.H, laced) {
				rows = append(rows, 0)
				for _, s := range spots {
					rows = append(rows, value(s.X, s.Y))
				}
			}
			if n := Bytes(h, 1); n != len(rows) {
				t.Fatal(h, n, len(rows))
			}
			m, err := png.Decode(bytes.NewReader(pngFile(t, h, rows)))
			if err != nil {
				t.Fatal(h, err)
			}
			for y := range h.H {
				for x := range h.W {
					if got, _, _, _ := m.At(x, y).RGBA(); got != uint32(value(x, y))*257 {
						t.Fatal(h, x, y, got)
					}
				}
			}
		}
	}
}

func pngFile(t *testing.T, h api.Head, rows []byte) []byte {
	t.Helper()
	var data bytes.Buffer
	w := zlib.NewWriter(&data)
	w.Write(rows)
	w.Close()
	ihdr, e := head.Write(h)
	if e != api.OK {
		t.Fatal(e)
	}
	file, e := chunk.Pack([]api.Chunk{{Kind: "IHDR", Data: ihdr}, {Kind: "IDAT", Data: data.Bytes()}, {Kind: "IEND"}})
	if e != api.OK {
		t.Fatal(e)
	}
	return file
}

func TestP14_1LibraryReadsGIF(t *testing.T) {
	for _, side := range [][2]int{{1, 1}, {3, 2}, {2, 5}, {8, 8}, {9, 9}, {1, 20}, {20, 1}, {33, 17}, {256, 256}} {
		for _, laced := range []bool{false, true} {
			w, h := side[0], side[1]
			var rows []byte
			for _, spots := range Woven(w, h, laced) {
				for _, s := range spots {
					rows = append(rows, value(s.X, s.Y))
				}
			}
			m, err := gif.Decode(bytes.NewReader(gifFile(t, w, h, laced, rows)))
			if err != nil {
				t.Fatal(side, laced, err)
			}
			for y := range h {
				for x := range w {
					if got, _, _, _ := m.At(x, y).RGBA(); got != uint32(value(x, y))*257 {
						t.Fatal(side, laced, x, y, got)
					}
				}
			}
		}
	}
}

// gifFile is a GIF with a table of all greys.
func gifFile(t *testing.T, w, h int, laced bool, rows []byte) []byte {
	t.Helper()
	two := func(n int) []byte { return []byte{byte(n), byte(n >> 8)} }
	place := bytes.Join([][]byte{{0x2c, 0, 0, 0, 0}, two(w), two(h), {0}}, nil)
	if laced {
		place[9] = 0x40
	}
	file := bytes.Join([][]byte{[]byte("GIF89a"), two(w), two(h), {0xf7, 0, 0}}, nil)
	for i := range 256 {
		file = append(file, byte(i), byte(i), byte(i))
	}
	var data bytes.Buffer
	packer := stdlzw.NewWriter(&data, stdlzw.LSB, 8)
	packer.Write(rows)
	packer.Close()
	row, e := blocks.Pack(data.Bytes(), 255)
	if e != api.OK {
		t.Fatal(e)
	}
	return bytes.Join([][]byte{file, place, {8}, row, {0x3b}}, nil)
}
