package front

import (
	"math/rand"
	"slices"

	"halftone/adam"
	"halftone/api"
	"halftone/blocks"
	"halftone/chunk"
	"halftone/filter"
	"halftone/head"
	"halftone/lzw"
	"halftone/pixel"
	"halftone/screen"
	"halftone/zlib"
)

// picture is a file that is accepted, and what it is to be read as.
type picture struct {
	file   []byte
	raster api.Raster
	woven  bool
}

// must is an answer beside which there may be no error.
func must[T any](v T, e api.Errno) T {
	if e != api.OK {
		panic(e)
	}
	return v
}

// image is the raster's.
func (p picture) image() api.Image { return must(pixel.Image(p.raster)) }

// lines is all of them, by what layers 14 and 15 say of the raster.
func (p picture) lines() (all []api.Line) {
	m := p.image()
	order := adam.Lines
	if p.woven {
		order = adam.Woven
	}
	for pass, spots := range order(m.W, m.H, p.raster.Head.Laced) {
		l := api.Line{Pass: pass, Spots: spots}
		for _, s := range spots {
			l.Cols = append(l.Cols, m.Pix[s.Y*m.W+s.X])
		}
		all = append(all, l)
	}
	return all
}

// pngHow is how a PNG is made: how it is packed, with which filter (5: all of them in turn), in IDATs of which size, and which chunk that says nothing stands ahead of them and behind them (none, if it has no kind).
type pngHow struct {
	how, kind, size int
	aside           api.Chunk
}

// pngOf makes a PNG of a raster.
func pngOf(r api.Raster, how pngHow) picture {
	list := []api.Chunk{{Kind: "IHDR", Data: must(head.Write(r.Head))}}
	if r.Head.Color == 3 {
		list = append(list, api.Chunk{Kind: "PLTE", Data: head.WriteTints(r.Tints)})
	}
	if len(r.Alpha)+len(r.Clear) > 0 {
		list = append(list, api.Chunk{Kind: "tRNS", Data: head.WriteClear(r.Head, r.Alpha, r.Clear)})
	}
	if how.aside.Kind != "" {
		list = append(list, how.aside)
	}
	for data := range slices.Chunk(must(zlib.Pack(pngText(r, how.kind), how.how)), how.size) {
		list = append(list, api.Chunk{Kind: "IDAT", Data: data})
	}
	if how.aside.Kind != "" {
		list = append(list, how.aside)
	}
	return picture{file: must(chunk.Pack(append(list, api.Chunk{Kind: "IEND"}))), raster: r}
}

// pngText is the lines' bytes.
func pngText(r api.Raster, kind int) (out []byte) {
	n := head.Samples(r.Head.Color)
	var above []byte
	last, line := 0, 0
	for pass, spots := range adam.Lines(r.Head.W, r.Head.H, r.Head.Laced) {
		if pass != last {
			last, above = pass, nil
		}
		var samples []int
		for _, s := range spots {
			at := (s.Y*r.Head.W + s.X) * n
			samples = append(samples, r.Samples[at:at+n]...)
		}
		b := must(pixel.Pack(samples, r.Head.Depth))
		k := kind
		if kind == 5 {
			k = line % 5
		}
		out = append(out, byte(k))
		out = append(out, must(filter.Do(k, b, above, max(1, n*r.Head.Depth/8)))...)
		above = b
		line++
	}
	return out
}

// gifHow is how a GIF is made: the least bits of a code, how late the clears come, the blocks' size, the colour that covers nothing (-1: none), whose table it has, and what stands ahead of the picture and behind it.
type gifHow struct {
	least, late, size int
	clear             int
	local             bool
	ahead, behind     []byte
}

// gifOf makes a GIF of a picture of this head, whose colours are these.
func gifOf(w, h int, laced bool, tints []api.Tint, samples []int, how gifHow) picture {
	start := must(screen.Write(api.Screen{W: w, H: h, Tints: tints, Local: how.local, Clear: how.clear, Laced: laced, Bits: how.least}))
	if !how.local {
		// The last eleven bytes are the picture's place, and the least bits.
		start = slices.Insert(start, len(start)-11, how.ahead...)
	}
	var text []byte
	for _, spots := range adam.Woven(w, h, laced) {
		for _, s := range spots {
			text = append(text, byte(samples[s.Y*w+s.X]))
		}
	}
	row := must(blocks.Pack(must(lzw.Pack(text, how.least, how.late)), how.size))
	r := api.Raster{Head: api.Head{W: w, H: h, Color: 3, Depth: 8, Laced: laced}, Tints: tints, Samples: samples}
	if how.clear >= 0 && how.clear < len(tints) {
		r.Alpha = append(slices.Repeat([]int{255}, how.clear), 0)
	}
	return picture{file: slices.Concat(start, row, how.behind, []byte{59}), raster: r, woven: true}
}

// kinds are the pairs of a kind of colours and a depth that a PNG may have.
var kinds = [][2]int{{0, 1}, {0, 2}, {0, 4}, {0, 8}, {0, 16}, {2, 8}, {2, 16}, {3, 1}, {3, 2}, {3, 4}, {3, 8}, {4, 8}, {4, 16}, {6, 8}, {6, 16}}

// tintsOf is n colours, of which no two are the same.
func tintsOf(n int) (l []api.Tint) {
	for i := range n {
		l = append(l, api.Tint{R: byte(i), G: byte(255 - i), B: byte(i*7 + 1)})
	}
	return l
}

// numbers is n of them, by chance, below end.
func numbers(rnd *rand.Rand, n, end int) []int {
	l := make([]int, n)
	for i := range l {
		l[i] = rnd.Intn(end)
	}
	return l
}

// rasterOf is a raster of a head, with a table, a cover and samples by chance.
func rasterOf(rnd *rand.Rand, h api.Head) api.Raster {
	r := api.Raster{Head: h}
	end := 1 << h.Depth
	if h.Color == 3 {
		end = 1 + rnd.Intn(end)
		r.Tints = tintsOf(end)
		r.Alpha = numbers(rnd, rnd.Intn(end+1), 256)
	}
	n := head.Samples(h.Color)
	r.Samples = numbers(rnd, h.W*h.H*n, end)
	if (h.Color == 0 || h.Color == 2) && rnd.Intn(2) == 0 {
		// One of the pixels' own, so that it is met.
		at := rnd.Intn(h.W*h.H) * n
		r.Clear = slices.Clone(r.Samples[at : at+n])
	}
	return r
}

// somePng is a PNG by chance, of the i-th kind of colours.
func somePng(rnd *rand.Rand, i, w, h int, laced bool) picture {
	k := kinds[i%len(kinds)]
	how := pngHow{how: rnd.Intn(4), kind: rnd.Intn(6), size: 1 + rnd.Intn(60)}
	if rnd.Intn(2) == 0 {
		how.aside = api.Chunk{Kind: "tEXt", Data: []byte{71, 137, 59}}
	}
	return pngOf(rasterOf(rnd, api.Head{W: w, H: h, Color: k[0], Depth: k[1], Laced: laced}), how)
}

// someGif is a GIF by chance, of a table whose size is by i.
func someGif(rnd *rand.Rand, i, w, h int, laced bool) picture {
	n := 2 << (i % 8)
	how := gifHow{least: 2 + rnd.Intn(7), late: rnd.Intn(3) * 100, size: 1 + rnd.Intn(255), clear: rnd.Intn(n+1) - 1, local: rnd.Intn(2) == 0}
	if rnd.Intn(2) == 0 {
		how.ahead = []byte{33, 254, 2, 137, 71, 1, 59, 0}
		how.behind = []byte{33, 249, 0, 33, 1, 1, 44, 0}
	}
	return gifOf(w, h, laced, tintsOf(n), numbers(rnd, w*h, min(n, 1<<how.least)), how)
}

// some is a file by chance, of both kinds in turn, laced and not.
func some(rnd *rand.Rand, i, w, h int) picture {
	if i%2 == 0 {
		return somePng(rnd, i/4, w, h, i%4 == 0)
	}
	return someGif(rnd, i/4, w, h, i%4 == 1)
}

// greyPng is a PNG of grey samples of eight bits that are stored as they are: behind 48 bytes each byte of the text is one of the file.
func greyPng(w, h int, laced bool, samples ...int) picture {
	r := api.Raster{Head: api.Head{W: w, H: h, Depth: 8, Laced: laced}, Samples: samples}
	return pngOf(r, pngHow{size: api.MaxFile})
}

// greyStart is how many bytes stand ahead of that text: the eight, IHDR, IDAT's size and kind, the wrapping's head, and the stored block's.
const greyStart = 8 + 25 + 8 + 2 + 5

// plainGif is a GIF of four colours with blocks of one byte.
func plainGif(w, h int, laced bool, samples ...int) picture {
	return gifOf(w, h, laced, tintsOf(4), samples, gifHow{least: 2, size: 1, clear: -1})
}

// plainStart is how many bytes stand ahead of its blocks.
const plainStart = 13 + 4*3 + 11
