package front

import (
	"iter"
	"slices"

	"halftone/api"
	"halftone/canvas"
)

// noPass stands for a pass where no line is left.
const noPass = 8

// Check is the image of an accepted file.
func Check(b []byte) (api.Image, api.Errno) {
	f := New()
	lines, e := f.all(b)
	if e != api.OK {
		return api.Image{}, e
	}
	h, _ := f.Head()
	c, _ := canvas.New(h.W, h.H)
	// The lines of an accepted file never meet, and fill the canvas: none is refused, and its image is the raster's.
	for _, l := range lines {
		c.Lay(l)
	}
	return c.Image(), api.OK
}

// Lines are the lines of an accepted file.
func Lines(b []byte) ([]api.Line, api.Errno) { return New().all(b) }

// all is the lines of a file that is accepted.
func (f *Front) all(b []byte) (lines []api.Line, e api.Errno) {
file:
	for l, wrong := range f.whole(b) {
		if wrong != api.OK {
			lines, e = nil, wrong
			break file
		}
		lines = append(lines, l)
	}
	return lines, e
}

// whole goes over the lines of a file of which no more will come, and last over why it isn't accepted, if it isn't.
func (f *Front) whole(b []byte) iter.Seq2[api.Line, api.Errno] {
	return func(yield func(api.Line, api.Errno) bool) {
		lines, e := f.Push(b)
		for _, l := range lines {
			if !yield(l, api.OK) {
				return
			}
		}
		if e == api.OK && !f.Done() {
			e = api.ErrShort
		}
		if e != api.OK {
			yield(api.Line{}, e)
		}
	}
}

// Passes are the passes of an accepted file's segments.
func Passes(b []byte, size int) ([]int, api.Errno) {
	if size < 1 || size > api.MaxBody {
		return nil, api.ErrArg
	}
	lines, e := Lines(b)
	if e != api.OK {
		return nil, e
	}
	f := New()
	var passes []int
segments:
	for segment := range slices.Chunk(b, size) {
		told := f.Told()
		if told == len(lines) {
			// Nothing that it would be told could change this.
			passes = append(passes, noPass)
			continue segments
		}
		passes = append(passes, lines[told].Pass)
		f.Push(segment)
	}
	return passes, api.OK
}
