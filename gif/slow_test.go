package gif

import (
	"fmt"
	"slices"
	"sort"
	"testing"

	"halftone/api"
	"halftone/lzw"
	"halftone/screen"
)

// slowLines is a head's lines, without colours.
func slowLines(h api.Head) (list []api.Line) {
	for pass := 1; pass <= 4; pass++ {
		for y := range h.H {
			if h.Laced && int("14342434"[y%8]-'0') != pass || !h.Laced && pass != 1 {
				continue
			}
			l := api.Line{Pass: pass}
			for x := range h.W {
				l.Spots = append(l.Spots, api.Spot{X: x, Y: y})
			}
			list = append(list, l)
		}
	}
	return list
}

// fault is something that is wrong with a file: how many bytes show it, and how early it is named.
type fault struct {
	at, named int
	e         api.Errno
}

// In which order the chapter names what may be wrong.
const (
	fileLong = iota
	wrongBeginning
	wrongCodes
	wrongIndex
	missingLines
	behindCodes
	missingEnd
	otherPicture
	noPart
	behindEnd
)

// shown is a line, and how many bytes of the file show it.
type shown struct {
	line api.Line
	at   int
}

// reading is all that a file says, with the number of bytes that say it (-1: it is never said).
type reading struct {
	lines  []shown
	fault  fault
	head   api.Head
	headAt int
	endAt  int
	raster api.Raster
}

// slow reads a file that is all there: it looks for everything that may be wrong, each thing by itself, and takes the earliest and first named of them.
func slow(b []byte) reading {
	r := reading{headAt: -1, endAt: -1, fault: fault{at: -1}}
	var faults []fault
	if len(b) > 1048576 {
		faults = append(faults, fault{1048577, fileLong, api.ErrLong})
	}
	s, n, e := screen.Read(b)
	switch e {
	case api.OK:
		r.headAt = n
		r.begin(s)
		faults = append(faults, r.picture(b, n, s.Bits)...)
	case api.ErrShort:
	default:
		// What layer 17 says of more bytes it says of fewer, down to the one that shows it.
		at := sort.Search(len(b), func(n int) bool {
			_, _, e := screen.Read(b[:n])
			return e != api.ErrShort
		})
		faults = append(faults, fault{at, wrongBeginning, e})
	}
	for _, f := range faults {
		if r.fault.at < 0 || f.at < r.fault.at || f.at == r.fault.at && f.named < r.fault.named {
			r.fault = f
		}
	}
	for i, l := range r.lines {
		if r.fault.at >= 0 && (l.at > r.fault.at || l.at == r.fault.at && r.fault.named < wrongCodes) {
			r.lines = r.lines[:i]
			break
		}
	}
	return r
}

// begin is what a beginning says of the raster.
func (r *reading) begin(s api.Screen) {
	r.head = api.Head{W: s.W, H: s.H, Color: 3, Depth: 8, Laced: s.Laced}
	r.raster = api.Raster{Head: r.head, Tints: s.Tints, Samples: make([]int, s.W*s.H)}
	if s.Clear >= 0 && s.Clear < len(s.Tints) {
		r.raster.Alpha = make([]int, s.Clear+1)
		for i := range s.Clear {
			r.raster.Alpha[i] = 255
		}
	}
}

// picture reads what stands behind the beginning, of so many bytes.
func (r *reading) picture(b []byte, at, least int) (faults []fault) {
	text, ats, at := slowBlocks(b, at)
	dec := lzw.New(least, r.head.W*r.head.H)
	var told []byte
	var tellers []int // of each byte told, how many of the file show it
	for i, v := range text {
		if dec.Done() {
			faults = append(faults, fault{ats[i], behindCodes, api.ErrTrail})
			continue
		}
		more, e := dec.Push([]byte{v})
		for _, v := range more {
			told = append(told, v)
			tellers = append(tellers, ats[i])
		}
		if e != api.OK {
			faults = append(faults, fault{ats[i], wrongCodes, e})
		}
		if dec.Done() && len(told) < r.head.W*r.head.H {
			faults = append(faults, fault{ats[i], missingLines, api.ErrMissing})
		}
	}
	faults = append(faults, r.rows(told, tellers)...)
	if at <= len(b) && !dec.Done() {
		faults = append(faults, fault{at, missingEnd, api.ErrMissing})
	}
	return append(faults, r.end(b, at)...)
}

// slowBlocks is the text of blocks, of each of its bytes how many of the file show it, and the place behind the blocks, which is behind all bytes if they don't end.
func slowBlocks(b []byte, at int) (text []byte, ats []int, behind int) {
	for at < len(b) {
		n := int(b[at])
		at++
		if n == 0 {
			return text, ats, at
		}
		for ; n > 0 && at < len(b); n-- {
			text = append(text, b[at])
			at++
			ats = append(ats, at)
		}
	}
	return text, ats, len(b) + 1
}

// rows makes lines of the samples.
func (r *reading) rows(told []byte, ats []int) (faults []fault) {
	for _, l := range slowLines(r.head) {
		if len(told) < r.head.W {
			break
		}
		there := true
		for i, s := range l.Spots {
			v := int(told[i])
			r.raster.Samples[s.Y*r.head.W+s.X] = v
			if v >= len(r.raster.Tints) {
				there = false
				continue
			}
			t := r.raster.Tints[v]
			c := api.Color{R: uint16(t.R) * 257, G: uint16(t.G) * 257, B: uint16(t.B) * 257, A: 65535}
			if v == len(r.raster.Alpha)-1 {
				c.A = 0
			}
			l.Cols = append(l.Cols, c)
		}
		at := ats[r.head.W-1]
		if !there {
			faults = append(faults, fault{at, wrongIndex, api.ErrIndex})
		}
		if len(faults) == 0 {
			r.lines = append(r.lines, shown{l, at})
		}
		told, ats = told[r.head.W:], ats[r.head.W:]
	}
	return faults
}

// end reads what stands behind the picture.
func (r *reading) end(b []byte, at int) (faults []fault) {
	for at < len(b) && b[at] == 33 {
		_, _, at = slowBlocks(b, at+2)
	}
	switch {
	case at >= len(b):
		return nil
	case b[at] == 44:
		return []fault{{at + 1, otherPicture, api.ErrOrder}}
	case b[at] != 59:
		return []fault{{at + 1, noPart, api.ErrForm}}
	}
	r.endAt = at + 1
	if len(b) > r.endAt {
		return []fault{{r.endAt + 1, behindEnd, api.ErrTrail}}
	}
	return nil
}

// sameLine holds two lines against each other.
func sameLine(a, b api.Line) bool {
	return a.Pass == b.Pass && slices.Equal(a.Spots, b.Spots) && slices.Equal(a.Cols, b.Cols)
}

// sameRaster holds two rasters against each other.
func sameRaster(a, b api.Raster) bool {
	return a.Head == b.Head && slices.Equal(a.Tints, b.Tints) && slices.Equal(a.Alpha, b.Alpha) && slices.Equal(a.Clear, b.Clear) && slices.Equal(a.Samples, b.Samples)
}

// since is what a push of the bytes from one place up to another tells, when all ahead of them were pushed.
func (r reading) since(from, to int) (lines []api.Line, e api.Errno) {
	if r.fault.at >= 0 && r.fault.at <= to {
		e = r.fault.e
	}
	for _, l := range r.lines {
		if l.at > from && l.at <= to {
			lines = append(lines, l.line)
		}
	}
	return lines, e
}

// told is how many lines so many bytes tell.
func (r reading) told(to int) int {
	lines, _ := r.since(0, to)
	return len(lines)
}

// done is whether so many bytes are a whole file.
func (r reading) done(to int) bool {
	return r.endAt >= 0 && to >= r.endAt && (r.fault.at < 0 || r.fault.at > to)
}

// asRead pushes a file, cut at these places: every push, and all that may be asked behind it, must answer as the slow reading does.
func asRead(t *testing.T, b []byte, r reading, cuts ...int) {
	t.Helper()
	d := New()
	from := 0
	for _, to := range append(slices.Clone(cuts), len(b)) {
		got, e := d.Push(b[from:to])
		want, wantE := r.since(from, to)
		if !slices.EqualFunc(got, want, sameLine) || e != wantE {
			t.Fatal("Push", from, to, brief(got), e, "not", brief(want), wantE, b[:min(len(b), 400)])
		}
		asked(t, d, r, to)
		from = to
	}
}

// asked holds Head, Done and Told against the slow reading of so many bytes.
func asked(t *testing.T, d *Decoder, r reading, to int) {
	t.Helper()
	known := r.headAt >= 0 && r.headAt <= to && (r.fault.at < 0 || r.headAt < r.fault.at)
	head := api.Head{}
	if known {
		head = r.head
	}
	if h, ok := d.Head(); h != head || ok != known {
		t.Fatal("Head", to, h, ok, "not", head, known)
	}
	if d.Done() != r.done(to) {
		t.Fatal("Done", to, d.Done())
	}
	if d.Told() != r.told(to) {
		t.Fatal("Told", to, d.Told(), "not", r.told(to))
	}
}

// readAs holds Read against the slow reading.
func readAs(t *testing.T, b []byte, r reading) {
	t.Helper()
	var want api.Raster
	e := r.fault.e
	switch {
	case r.done(len(b)):
		want = r.raster
	case e == api.OK:
		e = api.ErrShort
	}
	if got, gotE := Read(b); !sameRaster(got, want) || gotE != e {
		t.Fatal("Read", got.Head, gotE, "not", want.Head, e, b[:min(len(b), 400)])
	}
}

// asSlow holds all calls against the slow reading: all at once, byte by byte, and cut at these places.
func asSlow(t *testing.T, b []byte, cuts ...int) reading {
	t.Helper()
	r := slow(b)
	readAs(t, b, r)
	asRead(t, b, r)
	asRead(t, b, r, by(b, 1)...)
	asRead(t, b, r, cuts...)
	return r
}

// by is the cuts that leave parts of so many bytes.
func by(b []byte, size int) (cuts []int) {
	for at := size; at < len(b); at += size {
		cuts = append(cuts, at)
	}
	return cuts
}

// brief is lines for an error's text.
func brief(l []api.Line) string {
	return fmt.Sprint(len(l), " lines, first ", l[:min(len(l), 4)])
}
