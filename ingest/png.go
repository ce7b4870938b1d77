package ingest

import (
	"slices"

	"halftone/adam"
	"halftone/api"
	"halftone/chunk"
	"halftone/filter"
	"halftone/head"
	"halftone/pixel"
	"halftone/zlib"
)

// The kinds of chunks that are written.
const (
	headKind  = "IHDR"
	tintsKind = "PLTE"
	clearKind = "tRNS"
	dataKind  = "IDAT"
	endKind   = "IEND"
)

const (
	mostHow = 3
	choose  = 5 // asks for each line's own filter, not for the same one for all
)

// Png writes a PNG.
func Png(r api.Raster, how, kind, size int) ([]byte, api.Errno) {
	if how < 0 || how > mostHow || kind < 0 || kind > choose || size < 1 || size > api.MaxFile {
		return nil, api.ErrArg
	}
	if e := pixel.Check(r); e != api.OK {
		return nil, e
	}
	wrapped, e := zlib.Pack(text(r, kind), how)
	if e != api.OK {
		return nil, e
	}
	list := ahead(r)
	for data := range slices.Chunk(wrapped, size) {
		list = append(list, api.Chunk{Kind: dataKind, Data: data})
	}
	return chunk.Pack(append(list, api.Chunk{Kind: endKind}))
}

// ahead is the chunks that stand ahead of the data. A raster that may be has colours, or what covers nothing, just where its kind of colours has them: a chunk that would say nothing is one that there isn't.
func ahead(r api.Raster) (list []api.Chunk) {
	start, _ := head.Write(r.Head)
parts:
	for _, c := range []api.Chunk{
		{Kind: headKind, Data: start},
		{Kind: tintsKind, Data: head.WriteTints(r.Tints)},
		{Kind: clearKind, Data: head.WriteClear(r.Head, r.Alpha, r.Clear)},
	} {
		if len(c.Data) == 0 {
			continue parts
		}
		list = append(list, c)
	}
	return list
}

// text is the lines' bytes: of each its filter, and its samples by that.
func text(r api.Raster, kind int) (out []byte) {
	h := r.Head
	step := max(head.Samples(h.Color)*h.Depth/byteBits, 1)
	var above []byte
	last := 0
	for pass, samples := range lines(r, adam.Lines(h.W, h.H, h.Laced)) {
		if pass != last {
			last, above = pass, nil
		}
		// The raster may be, so its samples fit, and the filter and the step are such as there are: no error comes of them.
		row, _ := pixel.Pack(samples, h.Depth)
		used := kind
		if kind == choose {
			used, _ = filter.Choose(row, above, step)
		}
		filtered, _ := filter.Do(used, row, above, step)
		out = append(out, byte(used))
		out = append(out, filtered...)
		above = row
	}
	return out
}
