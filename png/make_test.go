package png

import (
	"encoding/binary"
	"hash/adler32"
	"hash/crc32"
	"math/rand"
	"slices"
	"testing"

	"halftone/api"
	"halftone/deflate"
	"halftone/filter"
	"halftone/pixel"
)

var eight = []byte{137, 80, 78, 71, 13, 10, 26, 10}

// part is a chunk's bytes, whatever its kind.
func part(kind string, data ...byte) []byte {
	out := binary.BigEndian.AppendUint32(nil, uint32(len(data)))
	out = append(out, kind...)
	out = append(out, data...)
	return binary.BigEndian.AppendUint32(out, crc32.ChecksumIEEE(out[4:]))
}

// file is the eight bytes, and these parts behind them.
func file(parts ...[]byte) []byte { return slices.Concat(append([][]byte{eight}, parts...)...) }

// ihdr is the chunk of a head.
func ihdr(h api.Head) []byte {
	b := binary.BigEndian.AppendUint32(nil, uint32(h.W))
	b = binary.BigEndian.AppendUint32(b, uint32(h.H))
	b = append(b, byte(h.Depth), byte(h.Color), 0, 0, 0)
	if h.Laced {
		b[12] = 1
	}
	return part("IHDR", b...)
}

// plte is the chunk of a table.
func plte(l []api.Tint) []byte {
	var b []byte
	for _, c := range l {
		b = append(b, c.R, c.G, c.B)
	}
	return part("PLTE", b...)
}

// trns is the chunk of what covers nothing, or less.
func trns(r api.Raster) []byte {
	var b []byte
	for _, v := range r.Alpha {
		b = append(b, byte(v))
	}
	for _, v := range r.Clear {
		b = append(b, byte(v>>8), byte(v))
	}
	return part("tRNS", b...)
}

var iend = part("IEND")

// wrap wraps packed bytes that tell this text.
func wrap(packed, text []byte) []byte {
	out := append([]byte{120, 156}, packed...)
	return binary.BigEndian.AppendUint32(out, adler32.Checksum(text))
}

// pack wraps a text, packed by layer 7.
func pack(t *testing.T, text []byte, how int) []byte {
	t.Helper()
	b, e := deflate.Pack(text, how)
	if e != api.OK {
		t.Fatal(e)
	}
	return wrap(b, text)
}

// stored wraps a text in blocks that have no more than so many bytes each; between and behind them stand blocks of none, if none is set. Each byte of the text is one byte of the packed ones.
func stored(text []byte, most int, none bool) []byte {
	var out []byte
	block := func(last byte, b []byte) {
		out = append(out, last)
		out = binary.LittleEndian.AppendUint16(out, uint16(len(b)))
		out = binary.LittleEndian.AppendUint16(out, ^uint16(len(b)))
		out = append(out, b...)
	}
	for b := range slices.Chunk(text, most) {
		if none {
			block(0, nil)
		}
		block(0, b)
	}
	block(1, nil)
	return wrap(out, text)
}

// idats is data in IDATs of no more than so many bytes.
func idats(data []byte, most int) []byte {
	var out []byte
	for b := range slices.Chunk(data, most) {
		out = append(out, part("IDAT", b...)...)
	}
	return out
}

// text is the lines' bytes of a raster: each line with the filter that is told for its number.
func text(t *testing.T, r api.Raster, kind func(line int) int) []byte {
	t.Helper()
	n := perPixel(r.Head.Color)
	var out, above []byte
	last := 0
	for i, l := range slowLines(r.Head) {
		if l.Pass != last {
			last, above = l.Pass, nil
		}
		var samples []int
		for _, s := range l.Spots {
			at := (s.Y*r.Head.W + s.X) * n
			samples = append(samples, r.Samples[at:at+n]...)
		}
		b, e := pixel.Pack(samples, r.Head.Depth)
		if e != api.OK {
			t.Fatal(e)
		}
		row, e := filter.Do(kind(i), b, above, max(1, n*r.Head.Depth/8))
		if e != api.OK {
			t.Fatal(e)
		}
		out = append(out, byte(kind(i)))
		out = append(out, row...)
		above = b
	}
	return out
}

// always is one filter for all lines.
func always(kind int) func(int) int { return func(int) int { return kind } }

// inTurn is all filters, one behind the other.
func inTurn(line int) int { return (line + 1) % 5 }

// front is all that stands ahead of a raster's IDATs.
func front(r api.Raster) []byte {
	out := file(ihdr(r.Head))
	if r.Head.Color == 3 {
		out = append(out, plte(r.Tints)...)
	}
	if len(r.Alpha)+len(r.Clear) > 0 {
		out = append(out, trns(r)...)
	}
	return out
}

// whole is a raster's file, its data in one IDAT.
func whole(t *testing.T, r api.Raster) []byte {
	t.Helper()
	return slices.Concat(front(r), part("IDAT", pack(t, text(t, r, inTurn), 3)...), iend)
}

// kinds are the pairs of a kind of colours and a depth that a head may have.
var kinds = [][2]int{{0, 1}, {0, 2}, {0, 4}, {0, 8}, {0, 16}, {2, 8}, {2, 16}, {3, 1}, {3, 2}, {3, 4}, {3, 8}, {4, 8}, {4, 16}, {6, 8}, {6, 16}}

// perPixel is how many samples a pixel of a kind of colours has.
func perPixel(color int) int { return map[int]int{0: 1, 2: 3, 3: 1, 4: 2, 6: 4}[color] }

// tints is n colours, of which no two are the same.
func tints(n int) []api.Tint {
	var l []api.Tint
	for i := range n {
		l = append(l, api.Tint{R: byte(i), G: byte(255 - i), B: byte(i*7 + 1)})
	}
	return l
}

// some is a raster of a head, with a table, a cover and samples by chance.
func some(rnd *rand.Rand, h api.Head) api.Raster {
	r := api.Raster{Head: h}
	end := 1 << h.Depth
	if h.Color == 3 {
		end = 1 + rnd.Intn(end)
		r.Tints = tints(end)
		r.Alpha = numbers(rnd, rnd.Intn(end+1), 256)
	}
	r.Samples = numbers(rnd, h.W*h.H*perPixel(h.Color), end)
	if (h.Color == 0 || h.Color == 2) && rnd.Intn(2) == 0 {
		// One of the pixels' own, so that it is met.
		n := perPixel(h.Color)
		at := rnd.Intn(h.W*h.H) * n
		r.Clear = slices.Clone(r.Samples[at : at+n])
	}
	return r
}

// numbers is n of them, by chance, below end.
func numbers(rnd *rand.Rand, n, end int) []int {
	l := make([]int, n)
	for i := range l {
		l[i] = rnd.Intn(end)
	}
	return l
}

// grey is a raster of kind 0 and depth 8 that isn't laced.
func grey(w, h int, samples ...int) api.Raster {
	return api.Raster{Head: api.Head{W: w, H: h, Depth: 8}, Samples: samples}
}

// listedOf is a raster of kind 3 and depth 8 with three colours.
func listedOf(w, h int, samples ...int) api.Raster {
	return api.Raster{Head: api.Head{W: w, H: h, Color: 3, Depth: 8}, Tints: tints(3), Samples: samples}
}
