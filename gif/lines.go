package gif

import (
	"iter"

	"halftone/adam"
	"halftone/api"
	"halftone/pixel"
)

// lines are those that are to come.
type lines struct {
	coming []api.Line // their passes and places
	filled []int      // of the next one the samples that have come
	told   int        // how many were told
}

// row is a line, and the samples that its colours are.
type row struct {
	api.Line
	samples []int
}

// linesOf is all lines of a picture.
func linesOf(h api.Head) lines {
	var l lines
	for pass, spots := range adam.Woven(h.W, h.H, h.Laced) {
		l.coming = append(l.coming, api.Line{Pass: pass, Spots: spots})
	}
	return l
}

// draw goes on with a byte of the picture's blocks: the rows that it makes whole, and what is wrong with it.
func (d *Decoder) draw(v byte) ([]row, api.Errno) {
	text := d.parts.Push([]byte{v})
	switch {
	case len(text) > 0 && d.codes.Done():
		return nil, api.ErrTrail
	case len(text) > 0:
		return d.unpack(text)
	case d.parts.Done() && !d.codes.Done():
		return nil, api.ErrMissing
	case d.parts.Done():
		d.state = turning
	}
	return nil, api.OK
}

// unpack goes on with a byte of the codes: the rows that it makes whole, and the first named of all errors that it shows.
func (d *Decoder) unpack(code []byte) (told []row, e api.Errno) {
	text, wrong := d.codes.Push(code)
rows:
	for r, fault := range d.rows(text) {
		if fault != api.OK {
			e = fault
			break rows
		}
		told = append(told, r)
		d.told++
	}
	switch {
	case wrong != api.OK:
		return told, wrong
	case e == api.OK && d.codes.Done() && len(d.coming) > 0:
		return told, api.ErrMissing
	}
	return told, e
}

// rows goes over the rows that samples make whole, each with what is wrong with it. There are never more samples than places: the codes are read up to so many.
func (d *Decoder) rows(text []byte) iter.Seq2[row, api.Errno] {
	return func(yield func(row, api.Errno) bool) {
		for _, v := range text {
			d.filled = append(d.filled, int(v))
			if len(d.filled) < len(d.coming[0].Spots) {
				continue
			}
			if !yield(d.finish()) {
				return
			}
		}
	}
}

// finish makes the next line of its samples, which are all there: its colours are those of a picture of one row.
func (d *Decoder) finish() (row, api.Errno) {
	line := d.coming[0]
	d.coming[0] = api.Line{} // else what was told would be kept
	d.coming = d.coming[1:]
	r := d.raster
	r.Head.W, r.Head.H = len(line.Spots), 1
	r.Samples = d.filled
	d.filled = nil
	image, e := pixel.Image(r)
	if e != api.OK {
		return row{}, e
	}
	line.Cols = image.Pix
	return row{line, r.Samples}, api.OK
}

// lay lays the samples at their places: a line of a GIF is a whole row of the picture.
func (r row) lay(all []int) {
	copy(all[r.Spots[0].Y*len(r.Spots):], r.samples)
}
