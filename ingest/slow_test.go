package ingest

import (
	"bytes"
	librarybytes "compress/zlib"
	"encoding/binary"
	"fmt"
	"hash/crc32"
	"io"
	"slices"
	"strconv"
	"strings"

	"halftone/api"
	"halftone/lzw"
	"halftone/pixel"
	"halftone/zlib"
)

// squares is in which of PNG's passes each pixel of a square of 8 by 8 comes.
var squares = [8]string{
	"16462646",
	"77777777",
	"56565656",
	"77777777",
	"36463646",
	"77777777",
	"56565656",
	"77777777",
}

// gathered is the lines of a picture, given the pass in which each place comes, if there are so many passes.
func gathered(h api.Head, passes int, pass func(x, y int) int) (list []api.Line) {
	for n := 1; n <= passes; n++ {
		for y := range h.H {
			l := api.Line{Pass: n}
			for x := range h.W {
				if pass(x, y) == n {
					l.Spots = append(l.Spots, api.Spot{X: x, Y: y})
				}
			}
			if len(l.Spots) > 0 {
				list = append(list, l)
			}
		}
	}
	return list
}

func alwaysFirst(int, int) int { return 1 }

// pngLines is the lines of a PNG, pixel by pixel.
func pngLines(h api.Head) []api.Line {
	if !h.Laced {
		return gathered(h, 1, alwaysFirst)
	}
	return gathered(h, 7, func(x, y int) int { return int(squares[y%8][x%8] - '0') })
}

// gifLines is the lines of a GIF, pixel by pixel.
func gifLines(h api.Head) []api.Line {
	if !h.Laced {
		return gathered(h, 1, alwaysFirst)
	}
	return gathered(h, 4, func(_, y int) int { return []int{1, 4, 3, 4, 2, 4, 3, 4}[y%8] })
}

// perPixel is how many samples a pixel of a kind of colours has.
func perPixel(color int) int { return map[int]int{0: 1, 2: 3, 3: 1, 4: 2, 6: 4}[color] }

// samplesOf is the samples of a line.
func samplesOf(r api.Raster, l api.Line) (out []int) {
	n := perPixel(r.Head.Color)
	for _, s := range l.Spots {
		for i := range n {
			out = append(out, r.Samples[(s.Y*r.Head.W+s.X)*n+i])
		}
	}
	return out
}

// packed is samples in bytes, bit by bit.
func packed(samples []int, depth int) (b []byte) {
	var all strings.Builder
	for _, v := range samples {
		fmt.Fprintf(&all, "%0*b", depth, v)
	}
	for all.Len()%8 != 0 {
		all.WriteByte('0')
	}
	for part := range slices.Chunk([]byte(all.String()), 8) {
		v, err := strconv.ParseUint(string(part), 2, 8)
		if err != nil {
			panic(err)
		}
		b = append(b, byte(v))
	}
	return b
}

// filtered is a row by a filter.
func filtered(kind int, row, above []byte, step int) (out []byte) {
	at := func(b []byte, i int) int {
		if i < 0 || i >= len(b) {
			return 0
		}
		return int(b[i])
	}
	for i, v := range row {
		a, b, c := at(row, i-step), at(above, i), at(above, i-step)
		guess := []int{0, a, b, (a + b) / 2, paeth(a, b, c)}[kind]
		out = append(out, byte((int(v)-guess+256)%256))
	}
	return out
}

// paeth is as PNG's own text has it.
func paeth(a, b, c int) int {
	p := a + b - c
	pa, pb, pc := distance(p, a), distance(p, b), distance(p, c)
	if pa <= pb && pa <= pc {
		return a
	}
	if pb <= pc {
		return b
	}
	return c
}

func distance(a, b int) int {
	if a < b {
		return b - a
	}
	return a - b
}

// chosen is the filter that leaves the least.
func chosen(row, above []byte, step int) int {
	best, least := -1, 0
	for kind := range 5 {
		n := 0
		for _, v := range filtered(kind, row, above, step) {
			n += min(int(v), 256-int(v))
		}
		if best < 0 || n < least {
			best, least = kind, n
		}
	}
	return best
}

// stepOf is how many bytes a pixel's samples have, 1 at least.
func stepOf(h api.Head) int { return max(1, perPixel(h.Color)*h.Depth/8) }

// slowRows is the bytes of each line of a PNG: its filter, and its samples by that.
func slowRows(r api.Raster, kind int) (rows [][]byte) {
	var above []byte
	last := 0
	for _, l := range pngLines(r.Head) {
		if l.Pass != last {
			last, above = l.Pass, nil
		}
		row := packed(samplesOf(r, l), r.Head.Depth)
		used := kind
		if kind == 5 {
			used = chosen(row, above, stepOf(r.Head))
		}
		rows = append(rows, append([]byte{byte(used)}, filtered(used, row, above, stepOf(r.Head))...))
		above = row
	}
	return rows
}

// slowText is all of them.
func slowText(r api.Raster, kind int) []byte { return slices.Concat(slowRows(r, kind)...) }

var eight = []byte{137, 80, 78, 71, 13, 10, 26, 10}

// part is a chunk's bytes.
func part(kind string, data ...byte) []byte {
	out := binary.BigEndian.AppendUint32(nil, uint32(len(data)))
	out = append(out, kind...)
	out = append(out, data...)
	return binary.BigEndian.AppendUint32(out, crc32.ChecksumIEEE(out[4:]))
}

// slowStart is all that stands ahead of a PNG's data.
func slowStart(r api.Raster) []byte {
	h := binary.BigEndian.AppendUint32(nil, uint32(r.Head.W))
	h = binary.BigEndian.AppendUint32(h, uint32(r.Head.H))
	h = append(h, byte(r.Head.Depth), byte(r.Head.Color), 0, 0, 0)
	if r.Head.Laced {
		h[12] = 1
	}
	out := slices.Concat(eight, part("IHDR", h...))
	if r.Head.Color == 3 {
		out = append(out, part("PLTE", colours(r.Tints)...)...)
	}
	var cover []byte
	for _, v := range r.Alpha {
		cover = append(cover, byte(v))
	}
	for _, v := range r.Clear {
		cover = binary.BigEndian.AppendUint16(cover, uint16(v))
	}
	if len(cover) > 0 {
		out = append(out, part("tRNS", cover...)...)
	}
	return out
}

// colours is the bytes of a table.
func colours(l []api.Tint) (b []byte) {
	for _, c := range l {
		b = append(b, c.R, c.G, c.B)
	}
	return b
}

// slowPng is what Png must answer.
func slowPng(r api.Raster, how, kind, size int) ([]byte, api.Errno) {
	if how < 0 || how > 3 || kind < 0 || kind > 5 || size < 1 || size > 1048576 {
		return nil, api.ErrArg
	}
	if e := pixel.Check(r); e != api.OK {
		return nil, e
	}
	out := slowStart(r)
	for data := range slices.Chunk(must(zlib.Pack(slowText(r, kind), how)), size) {
		out = append(out, part("IDAT", data...)...)
	}
	out = append(out, part("IEND")...)
	if len(out) > 1048576 {
		return nil, api.ErrLong
	}
	return out, api.OK
}

// slowGif is what Gif must answer.
func slowGif(r api.Raster, late, size int) ([]byte, api.Errno) {
	if late < 0 || size < 1 || size > 255 {
		return nil, api.ErrArg
	}
	if e := pixel.Check(r); e != api.OK {
		return nil, e
	}
	if r.Head.Color != 3 || r.Head.Depth != 8 {
		return nil, api.ErrHead
	}
	bare := -1
	for i, v := range r.Alpha {
		switch {
		case v != 255 && bare >= 0, v != 255 && v != 0:
			return nil, api.ErrPalette
		case v == 0:
			bare = i
		}
	}
	out := slowBegin(r, bare)
	var text []byte
	for _, l := range gifLines(r.Head) {
		for _, v := range samplesOf(r, l) {
			text = append(text, byte(v))
		}
	}
	for block := range slices.Chunk(must(lzw.Pack(text, slowBits(len(r.Tints)), late)), size) {
		out = append(append(out, byte(len(block))), block...)
	}
	return append(out, 0, 59), api.OK
}

// slowBits is the least bits of a code of so many colours.
func slowBits(tints int) int {
	for n := 2; ; n++ {
		if tints-1 < 1<<n {
			return n
		}
	}
}

// tableOf is how many colours a GIF's table of so many has, and how its marks say it.
func tableOf(tints int) (size int, marks byte) {
	for size = 2; size < tints; size *= 2 {
		marks++
	}
	return size, marks
}

// slowBegin is what stands ahead of a GIF's blocks.
func slowBegin(r api.Raster, bare int) []byte {
	size, marks := tableOf(len(r.Tints))
	sides := binary.LittleEndian.AppendUint16(nil, uint16(r.Head.W))
	sides = binary.LittleEndian.AppendUint16(sides, uint16(r.Head.H))
	out := slices.Concat([]byte("GIF89a"), sides, []byte{240 | marks, 0, 0}, colours(r.Tints))
	out = append(out, make([]byte, 3*(size-len(r.Tints)))...)
	if bare >= 0 {
		out = append(out, 33, 249, 4, 1, 0, 0, byte(bare), 0)
	}
	out = slices.Concat(out, []byte{44, 0, 0, 0, 0}, sides, []byte{0})
	if r.Head.Laced {
		out[len(out)-1] = 64
	}
	return append(out, byte(slowBits(len(r.Tints))))
}

// piece is a chunk of a PNG, taken apart by hand.
type piece struct {
	kind string
	data []byte
}

// taken is the chunks of a PNG's file.
func taken(b []byte) (list []piece, err error) {
	if !bytes.HasPrefix(b, eight) {
		return nil, fmt.Errorf("no PNG: %v", b)
	}
	for b = b[8:]; len(b) > 0; {
		if len(b) < 12 {
			return list, io.ErrUnexpectedEOF
		}
		n := int(binary.BigEndian.Uint32(b))
		if n > len(b)-12 {
			return list, io.ErrUnexpectedEOF
		}
		p := piece{string(b[4:8]), b[8 : 8+n]}
		if binary.BigEndian.Uint32(b[8+n:]) != crc32.ChecksumIEEE(b[4:8+n]) {
			return list, fmt.Errorf("the sum of %v", p)
		}
		list = append(list, p)
		b = b[12+n:]
	}
	return list, nil
}

// unwrapped is what the library reads of wrapped bytes.
func unwrapped(b []byte) ([]byte, error) {
	from := bytes.NewReader(b)
	r, err := librarybytes.NewReader(from)
	if err != nil {
		return nil, err
	}
	out, err := io.ReadAll(r)
	if err == nil && from.Len() > 0 {
		err = fmt.Errorf("%d bytes behind", from.Len())
	}
	return out, err
}
