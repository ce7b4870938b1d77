package png

import (
	"encoding/binary"
	"fmt"
	"hash/crc32"
	"slices"
	"strings"
	"testing"

	"halftone/api"
	"halftone/zlib"
)

// slowPass is the pass of each place of a laced picture, as PNG's own description draws it.
var slowPass = [8]string{
	"16462646",
	"77777777",
	"56565656",
	"77777777",
	"36463646",
	"77777777",
	"56565656",
	"77777777",
}

// slowLines is a head's lines, without colours.
func slowLines(h api.Head) (list []api.Line) {
	for pass := 1; pass <= 7; pass++ {
		for y := range h.H {
			var spots []api.Spot
			for x := range h.W {
				if h.Laced && int(slowPass[y%8][x%8]-'0') == pass || !h.Laced && pass == 1 {
					spots = append(spots, api.Spot{X: x, Y: y})
				}
			}
			if len(spots) > 0 {
				list = append(list, api.Line{Pass: pass, Spots: spots})
			}
		}
	}
	return list
}

// slowSize is how many bytes a line of so many pixels has, its filter's with them.
func slowSize(h api.Head, pixels int) int {
	return 1 + (pixels*perPixel(h.Color)*h.Depth+7)/8
}

// fault is something that is wrong with a file: how many bytes show it, and how early it is named.
type fault struct {
	at, named int
	e         api.Errno
}

// In which order the chapter names what may be wrong.
const (
	fileLong = iota
	chunks
	chunkOrder
	noTable
	unfinished
	packing
	wrongFilter
	wrongIndex
	missing
	behindPacked
	chunkEnd
	behindEnd
)

// shown is a line, and how many bytes of the file show it.
type shown struct {
	line api.Line
	at   int
}

// reading is all that a file says, with the number of bytes that say it (-1: it is never said).
type reading struct {
	lines    []shown
	fault    fault
	head     api.Head
	headAt   int
	endAt    int
	raster   api.Raster
	complete bool
}

// slowChunk is a chunk that is all there, or of which at least the kind is.
type slowChunk struct {
	kind            string
	size            int
	data            []byte
	begun, from, at int // how many bytes show its kind, its first byte of data, its end (-1: not there)
}

// slowRow takes a row of chunks apart.
func slowRow(b []byte) (list []slowChunk, f fault) {
	none := fault{at: -1}
	for i, want := range eight {
		if i == len(b) {
			return nil, none
		}
		if b[i] != want {
			return nil, fault{i + 1, chunks, api.ErrForm}
		}
	}
	for at := 8; ; {
		if len(b) < at+4 {
			return list, none
		}
		size := int(binary.BigEndian.Uint32(b[at:]))
		if size > 1048576 {
			return list, fault{at + 4, chunks, api.ErrLong}
		}
		if len(b) < at+8 {
			return list, none
		}
		kind := string(b[at+4 : at+8])
		if strings.Trim(kind, "ABCDEFGHIJKLMNOPQRSTUVWXYZabcdefghijklmnopqrstuvwxyz") != "" {
			return list, fault{at + 8, chunks, api.ErrForm}
		}
		c := slowChunk{kind: kind, size: size, begun: at + 8, from: at + 9, at: -1}
		end := at + 8 + size
		c.data = b[at+8 : min(end, len(b))]
		list = append(list, c)
		if len(b) < end+4 {
			return list, none
		}
		if crc32.ChecksumIEEE(b[at+4:end]) != binary.BigEndian.Uint32(b[end:]) {
			return list, fault{end + 4, chunks, api.ErrSum}
		}
		list[len(list)-1].at = end + 4
		at = end + 4
	}
}

// slow reads a file that is all there: it looks for everything that may be wrong, each thing by itself, and takes the earliest and first named of them.
func slow(b []byte) reading {
	list, f := slowRow(b)
	r := reading{headAt: -1, endAt: -1, fault: fault{at: -1}}
	faults := []fault{f}
	if len(b) > 1048576 {
		faults = append(faults, fault{1048577, fileLong, api.ErrLong})
	}
	if len(list) > 0 && list[0].kind == "IHDR" && list[0].at >= 0 {
		h, ok := slowHead(list[0].data)
		if ok {
			r.head, r.headAt = h, list[0].at
		} else {
			faults = append(faults, fault{list[0].at, chunkEnd, api.ErrHead})
		}
	}
	r.raster.Head = r.head
	if r.headAt >= 0 {
		faults = append(faults, r.colours(list)...)
	}
	packed, packedEnd := r.data(list)
	faults = append(faults, packed...)
	faults = append(faults, r.order(b, list, packedEnd)...)
	for _, f := range faults {
		if f.at >= 0 && (r.fault.at < 0 || f.at < r.fault.at || f.at == r.fault.at && f.named < r.fault.named) {
			r.fault = f
		}
	}
	// Of a line that the byte of the fault would show, too, only the data of IDAT can tell: it is there, if what is wrong stands behind it.
	for i, l := range r.lines {
		late := l.at > r.fault.at || l.at == r.fault.at && r.fault.named < packing
		if r.fault.at >= 0 && late {
			r.lines = r.lines[:i]
			break
		}
	}
	r.complete = r.endAt >= 0 && r.fault.at < 0
	return r
}

// slowHead is a head that may be.
func slowHead(b []byte) (h api.Head, ok bool) {
	if len(b) != 13 {
		return h, false
	}
	w, t := binary.BigEndian.Uint32(b), binary.BigEndian.Uint32(b[4:])
	pair := [2]int{int(b[9]), int(b[8])}
	if w < 1 || t < 1 || w > 2048 || t > 2048 || w*t > 65536 || !slices.Contains(kinds, pair) || b[10] != 0 || b[11] != 0 || b[12] > 1 {
		return h, false
	}
	return api.Head{W: int(w), H: int(t), Color: pair[0], Depth: pair[1], Laced: b[12] == 1}, true
}

// colours reads the table and what covers nothing: the first of each, ahead of the data.
func (r *reading) colours(list []slowChunk) (faults []fault) {
	h := r.head
	had := map[string]bool{}
	for _, c := range list {
		if c.at < 0 || had[c.kind] || had["IDAT"] {
			continue
		}
		had[c.kind] = true
		wrong := false
		switch c.kind {
		case "PLTE":
			n := len(c.data) / 3
			wrong = len(c.data)%3 != 0 || n < 1 || n > 256 || h.Color == 0 || h.Color == 4 || h.Color == 3 && n > 1<<h.Depth
			for i := range n {
				if h.Color == 3 && !wrong {
					r.raster.Tints = append(r.raster.Tints, api.Tint{R: c.data[3*i], G: c.data[3*i+1], B: c.data[3*i+2]})
				}
			}
		case "tRNS":
			wrong = !r.cover(c.data)
		}
		if wrong {
			faults = append(faults, fault{c.at, chunkEnd, api.ErrPalette})
		}
	}
	return faults
}

// cover reads what covers nothing, or less.
func (r *reading) cover(b []byte) bool {
	h := r.head
	switch h.Color {
	case 3:
		for _, v := range b {
			r.raster.Alpha = append(r.raster.Alpha, int(v))
		}
		return len(b) >= 1 && len(b) <= len(r.raster.Tints)
	case 0, 2:
		if len(b) != 2*perPixel(h.Color) {
			return false
		}
		for i := 0; i < len(b); i += 2 {
			v := int(binary.BigEndian.Uint16(b[i:]))
			if v >= 1<<h.Depth {
				return false
			}
			r.raster.Clear = append(r.raster.Clear, v)
		}
		return true
	}
	return false
}

// data reads the data of all IDATs: what is wrong with them, and how many bytes show the end of the packed ones.
func (r *reading) data(list []slowChunk) (faults []fault, end int) {
	end = -1
	if r.headAt < 0 {
		return nil, end
	}
	all := slowLines(r.head)
	limit := 0
	for _, l := range all {
		limit += slowSize(r.head, len(l.Spots))
	}
	z := zlib.New(limit)
	var told []byte
	var ats []int // of each byte told, how many of the file show it
	for _, c := range list {
		if c.kind != "IDAT" {
			continue
		}
		for i, b := range c.data {
			at := c.from + i
			if end >= 0 {
				faults = append(faults, fault{at, behindPacked, api.ErrTrail})
				continue
			}
			more, e := z.Push([]byte{b})
			for _, v := range more {
				told = append(told, v)
				ats = append(ats, at)
			}
			if e != api.OK {
				faults = append(faults, fault{at, packing, e})
			}
			if z.Done() {
				end = at
			}
		}
	}
	if end >= 0 && len(told) < limit {
		faults = append(faults, fault{end, missing, api.ErrMissing})
	}
	return append(faults, r.rows(all, told, ats)...), end
}

// rows takes the lines' bytes apart.
func (r *reading) rows(all []api.Line, told []byte, ats []int) (faults []fault) {
	h := r.head
	n := perPixel(h.Color)
	r.raster.Samples = make([]int, h.W*h.H*n)
	var above []byte
	pass := 0
	for _, l := range all {
		size := slowSize(h, len(l.Spots))
		if len(told) > 0 && told[0] > 4 {
			return append(faults, fault{ats[0], wrongFilter, api.ErrFilter})
		}
		if len(told) < size {
			return faults
		}
		if l.Pass != pass {
			pass, above = l.Pass, make([]byte, size-1)
		}
		above = slowUndo(told[0], told[1:size], above, max(1, n*h.Depth/8))
		index := false
		for i, s := range l.Spots {
			var v []int
			for j := range n {
				v = append(v, slowSample(above, (i*n+j)*h.Depth, h.Depth))
			}
			copy(r.raster.Samples[(s.Y*h.W+s.X)*n:], v)
			c, ok := slowColour(r.raster, v)
			l.Cols = append(l.Cols, c)
			index = index || !ok
		}
		if index {
			faults = append(faults, fault{ats[size-1], wrongIndex, api.ErrIndex})
		}
		if len(faults) == 0 {
			r.lines = append(r.lines, shown{l, ats[size-1]})
		}
		told, ats = told[size:], ats[size:]
	}
	return faults
}

// slowUndo gets a row back.
func slowUndo(kind byte, row, above []byte, step int) []byte {
	out := make([]byte, len(row))
	for i := range row {
		var a, c int
		b := int(above[i])
		if i >= step {
			a, c = int(out[i-step]), int(above[i-step])
		}
		p := a + b - c
		guess := 0
		switch kind {
		case 1:
			guess = a
		case 2:
			guess = b
		case 3:
			guess = (a + b) / 2
		case 4:
			guess = a
			if far(p, b) < far(p, guess) {
				guess = b
			}
			if far(p, c) < far(p, guess) {
				guess = c
			}
		}
		out[i] = row[i] + byte(guess)
	}
	return out
}

func far(a, b int) int { return max(a-b, b-a) }

// slowSample is the number of the bits from a place on, the highest first.
func slowSample(b []byte, from, bits int) (v int) {
	for i := from; i < from+bits; i++ {
		v = 2*v + int(b[i/8]>>(7-i%8)&1)
	}
	return v
}

// slowColour is a pixel's colour, and whether there is one.
func slowColour(r api.Raster, v []int) (c api.Color, ok bool) {
	var l []uint16
	for _, x := range v {
		l = append(l, uint16(x*65535/(1<<r.Head.Depth-1)))
	}
	cover := uint16(65535)
	if len(r.Clear) > 0 && slices.Equal(r.Clear, v) {
		cover = 0
	}
	switch r.Head.Color {
	case 0:
		return api.Color{R: l[0], G: l[0], B: l[0], A: cover}, true
	case 2:
		return api.Color{R: l[0], G: l[1], B: l[2], A: cover}, true
	case 4:
		return api.Color{R: l[0], G: l[0], B: l[0], A: l[1]}, true
	case 6:
		return api.Color{R: l[0], G: l[1], B: l[2], A: l[3]}, true
	}
	if v[0] >= len(r.Tints) {
		return c, false
	}
	t := r.Tints[v[0]]
	if v[0] < len(r.Alpha) {
		cover = uint16(r.Alpha[v[0]]) * 257
	}
	return api.Color{R: uint16(t.R) * 257, G: uint16(t.G) * 257, B: uint16(t.B) * 257, A: cover}, true
}

// order looks at which chunk stands where.
func (r *reading) order(b []byte, list []slowChunk, packedEnd int) (faults []fault) {
	had := func(i int, kind string) bool {
		return slices.ContainsFunc(list[:i], func(c slowChunk) bool { return c.kind == kind })
	}
	for i, c := range list {
		wrong := false
		switch c.kind {
		case "IHDR":
			wrong = i > 0
		case "PLTE":
			wrong = had(i, "PLTE") || had(i, "IDAT")
		case "tRNS":
			wrong = had(i, "tRNS") || had(i, "IDAT") || r.head.Color == 3 && !had(i, "PLTE")
		case "IDAT":
			wrong = had(i, "IDAT") && list[i-1].kind != "IDAT"
		case "IEND":
			wrong = !had(i, "IDAT") || c.size != 0
			if c.at >= 0 && r.endAt < 0 {
				r.endAt = c.at
			}
		default:
			wrong = c.kind[0] < 'a'
		}
		if wrong || i == 0 && c.kind != "IHDR" {
			faults = append(faults, fault{c.begun, chunkOrder, api.ErrOrder})
		}
		if c.kind == "IDAT" && r.head.Color == 3 && !had(i, "PLTE") {
			faults = append(faults, fault{c.begun, noTable, api.ErrPalette})
		}
		if c.kind != "IDAT" && had(i, "IDAT") && (packedEnd < 0 || packedEnd > c.begun) {
			faults = append(faults, fault{c.begun, unfinished, api.ErrMissing})
		}
	}
	if r.endAt >= 0 && len(b) > r.endAt {
		faults = append(faults, fault{r.endAt + 1, behindEnd, api.ErrTrail})
	}
	return faults
}

// sameLine holds two lines against each other.
func sameLine(a, b api.Line) bool {
	return a.Pass == b.Pass && slices.Equal(a.Spots, b.Spots) && slices.Equal(a.Cols, b.Cols)
}

// sameRaster holds two rasters against each other.
func sameRaster(a, b api.Raster) bool {
	return a.Head == b.Head && slices.Equal(a.Tints, b.Tints) && slices.Equal(a.Alpha, b.Alpha) && slices.Equal(a.Clear, b.Clear) && slices.Equal(a.Samples, b.Samples)
}

// since is what a push of the bytes from one place up to another tells, when all ahead of them were pushed.
func (r reading) since(from, to int) (lines []api.Line, e api.Errno) {
	if r.fault.at >= 0 && r.fault.at <= to {
		e = r.fault.e
	}
	for _, l := range r.lines {
		if l.at > from && l.at <= to {
			lines = append(lines, l.line)
		}
	}
	return lines, e
}

// told is how many lines so many bytes tell.
func (r reading) told(to int) int {
	lines, _ := r.since(0, to)
	return len(lines)
}

// done is whether so many bytes are a whole file.
func (r reading) done(to int) bool {
	return r.endAt >= 0 && to >= r.endAt && (r.fault.at < 0 || r.fault.at > to)
}

// asRead pushes a file, cut at these places: every push, and all that may be asked behind it, must answer as the slow reading does.
func asRead(t *testing.T, b []byte, r reading, cuts ...int) {
	t.Helper()
	d := New()
	from := 0
	for _, to := range append(slices.Clone(cuts), len(b)) {
		got, e := d.Push(b[from:to])
		want, wantE := r.since(from, to)
		if !slices.EqualFunc(got, want, sameLine) || e != wantE {
			t.Fatal("Push", from, to, brief(got), e, "not", brief(want), wantE, b[:min(len(b), 400)])
		}
		asked(t, d, r, to)
		from = to
	}
}

// asked holds Head, Done and Told against the slow reading of so many bytes.
func asked(t *testing.T, d *Decoder, r reading, to int) {
	t.Helper()
	known := r.headAt >= 0 && r.headAt <= to && (r.fault.at < 0 || r.headAt < r.fault.at)
	head := api.Head{}
	if known {
		head = r.head
	}
	if h, ok := d.Head(); h != head || ok != known {
		t.Fatal("Head", to, h, ok, "not", head, known)
	}
	if d.Done() != r.done(to) {
		t.Fatal("Done", to, d.Done())
	}
	if d.Told() != r.told(to) {
		t.Fatal("Told", to, d.Told(), "not", r.told(to))
	}
}

// readAs holds Read against the slow reading.
func readAs(t *testing.T, b []byte, r reading) {
	t.Helper()
	var want api.Raster
	e := r.fault.e
	switch {
	case r.complete:
		want = r.raster
	case e == api.OK:
		e = api.ErrShort
	}
	if got, gotE := Read(b); !sameRaster(got, want) || gotE != e {
		t.Fatal("Read", got.Head, gotE, "not", want.Head, e, b[:min(len(b), 400)])
	}
}

// asSlow holds all calls against the slow reading: all at once, byte by byte, and cut at these places.
func asSlow(t *testing.T, b []byte, cuts ...int) reading {
	t.Helper()
	r := slow(b)
	readAs(t, b, r)
	asRead(t, b, r)
	asRead(t, b, r, by(b, 1)...)
	asRead(t, b, r, cuts...)
	return r
}

// by is the cuts that leave parts of so many bytes.
func by(b []byte, size int) (cuts []int) {
	for at := size; at < len(b); at += size {
		cuts = append(cuts, at)
	}
	return cuts
}

// brief is lines for an error's text.
func brief(l []api.Line) string {
	return fmt.Sprint(len(l), " lines, first ", l[:min(len(l), 4)])
}
