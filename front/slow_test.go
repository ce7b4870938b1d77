package front

import (
	"fmt"
	"slices"
	"testing"

	"halftone/api"
	"halftone/gif"
	"halftone/pixel"
	"halftone/png"
)

// moment is what a file says once so many of its bytes have come.
type moment struct {
	told        int
	e           api.Errno
	head        api.Head
	known, done bool
}

// reading is a file's lines, and what it says behind each of its bytes, by the layers below.
type reading struct {
	lines   []api.Line
	moments []moment // the first one: ahead of all bytes
	woven   bool
	raster  func() (api.Raster, api.Errno)
}

// slow reads a file byte by byte.
func slow(b []byte) reading {
	r := reading{moments: []moment{{}}}
	switch {
	case len(b) == 0:
		r.raster = func() (api.Raster, api.Errno) { return api.Raster{}, api.ErrShort }
	case b[0] == 137:
		d := png.New()
		r.raster = func() (api.Raster, api.Errno) { return png.Read(b) }
		r.read(b, d.Push, d.Head, d.Done)
	case b[0] == 71:
		d := gif.New()
		r.woven = true
		r.raster = func() (api.Raster, api.Errno) { return gif.Read(b) }
		r.read(b, d.Push, d.Head, d.Done)
	default:
		r.raster = func() (api.Raster, api.Errno) { return api.Raster{}, api.ErrForm }
		r.moments = append(r.moments, slices.Repeat([]moment{{e: api.ErrForm}}, len(b))...)
	}
	return r
}

func (r *reading) read(b []byte, push func([]byte) ([]api.Line, api.Errno), head func() (api.Head, bool), done func() bool) {
	for i := range b {
		lines, e := push(b[i : i+1])
		r.lines = append(r.lines, lines...)
		h, known := head()
		r.moments = append(r.moments, moment{len(r.lines), e, h, known, done()})
	}
}

// refused is why the file isn't accepted; OK, if it is.
func (r reading) refused() api.Errno {
	last := r.moments[len(r.moments)-1]
	if last.e == api.OK && !last.done {
		return api.ErrShort
	}
	return last.e
}

func sameLine(a, b api.Line) bool {
	return a.Pass == b.Pass && slices.Equal(a.Spots, b.Spots) && slices.Equal(a.Cols, b.Cols)
}

func sameLines(a, b []api.Line) bool { return slices.EqualFunc(a, b, sameLine) }

func sameImage(a, b api.Image) bool {
	return a.W == b.W && a.H == b.H && slices.Equal(a.Pix, b.Pix)
}

// asRead pushes a file, cut at these places: each push, and all that may be asked behind it, must answer as the slow reading does.
func asRead(t *testing.T, b []byte, r reading, cuts ...int) {
	t.Helper()
	f := New()
	asked(t, f, r, 0)
	from := 0
	for _, to := range append(slices.Clone(cuts), len(b)) {
		pushed(t, f, b, r, from, to)
		from = to
	}
}

// pushed pushes the bytes from one place up to another.
func pushed(t *testing.T, f *Front, b []byte, r reading, from, to int) {
	t.Helper()
	got, e := f.Push(b[from:to])
	want := r.lines[r.moments[from].told:r.moments[to].told]
	if !sameLines(got, want) || e != r.moments[to].e {
		t.Fatal("Push", from, to, brief(got), e, "not", brief(want), r.moments[to].e, b[:min(len(b), 400)])
	}
	asked(t, f, r, to)
}

// asked holds Head, Done, Told and Woven against the slow reading of so many bytes.
func asked(t *testing.T, f *Front, r reading, to int) {
	t.Helper()
	m := r.moments[to]
	if h, known := f.Head(); h != m.head || known != m.known {
		t.Fatal("Head", to, h, known, "not", m.head, m.known)
	}
	if f.Done() != m.done || f.Told() != m.told || f.Woven() != (r.woven && to > 0) {
		t.Fatal("Done, Told, Woven", to, f.Done(), f.Told(), f.Woven(), "not", m.done, m.told, r.woven)
	}
}

// checked holds Check, Lines and Passes of a whole file against the slow reading.
func checked(t *testing.T, b []byte, r reading) {
	t.Helper()
	refused := r.refused()
	var image api.Image
	var lines []api.Line
	if refused == api.OK {
		image, lines = must(pixel.Image(must(r.raster()))), r.lines
	}
	if m, e := Check(b); e != refused || !sameImage(m, image) {
		t.Fatal("Check", m.W, m.H, e, "not", image.W, image.H, refused, b[:min(len(b), 400)])
	}
	if l, e := Lines(b); e != refused || !sameLines(l, lines) {
		t.Fatal("Lines", brief(l), e, "not", brief(lines), refused, b[:min(len(b), 400)])
	}
	passed(t, b, r, 1)
	passed(t, b, r, 7)
}

// passed holds Passes against the slow reading.
func passed(t *testing.T, b []byte, r reading, size int) {
	t.Helper()
	var want []int
	if r.refused() == api.OK {
		for at := 0; at < len(b); at += size {
			pass := 8
			if told := r.moments[at].told; told < len(r.lines) {
				pass = r.lines[told].Pass
			}
			want = append(want, pass)
		}
	}
	if got, e := Passes(b, size); e != r.refused() || !slices.Equal(got, want) {
		t.Fatal("Passes", size, got, e, "not", want, r.refused())
	}
}

// asSlow holds all calls against the slow reading: all at once, byte by byte, and cut at these places.
func asSlow(t *testing.T, b []byte, cuts ...int) reading {
	t.Helper()
	r := slow(b)
	asRead(t, b, r)
	asRead(t, b, r, by(b, 1)...)
	asRead(t, b, r, cuts...)
	checked(t, b, r)
	return r
}

// by is the cuts that leave pieces of so many bytes.
func by(b []byte, size int) (cuts []int) {
	for at := size; at < len(b); at += size {
		cuts = append(cuts, at)
	}
	return cuts
}

// twice is the cuts with an empty piece ahead of each piece, and two behind all.
func twice(b []byte, cuts []int) (more []int) {
	more = append(more, 0, 0)
	for _, c := range cuts {
		more = append(more, c, c)
	}
	return append(more, len(b), len(b))
}

// brief is lines for an error's text.
func brief(l []api.Line) string {
	return fmt.Sprint(len(l), " lines, first ", l[:min(len(l), 4)])
}
