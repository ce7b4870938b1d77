package png

import (
	"iter"

	"halftone/adam"
	"halftone/api"
	"halftone/filter"
	"halftone/head"
	"halftone/pixel"
	"halftone/zlib"
)

const byteBits = 8

// lines are those that are to come.
type lines struct {
	packed *zlib.Decoder // tells their bytes
	coming []api.Line    // their passes and places
	filled []byte        // of the next one what has come: its filter, and its samples' bytes
	above  []byte        // the bytes of the line ahead of it
	pass   int           // that line's pass
	told   int           // how many were told
}

// row is a line, and the samples that its colours are.
type row struct {
	api.Line
	samples []int
}

// linesOf is all lines of a picture.
func linesOf(h api.Head) lines {
	l := lines{packed: zlib.New(adam.Bytes(h, head.Samples(h.Color)))}
	for pass, spots := range adam.Lines(h.W, h.H, h.Laced) {
		l.coming = append(l.coming, api.Line{Pass: pass, Spots: spots})
	}
	return l
}

// rows goes over the rows that a piece tells (none, if it isn't IDAT's), and last over what is wrong with it, if something is.
func (d *Decoder) rows(p api.Piece) iter.Seq2[row, api.Errno] {
	return func(yield func(row, api.Errno) bool) {
		if p.Kind != dataKind {
			return
		}
		// Byte by byte, for of two things that are wrong, with the packing and with a line, the one that an earlier byte shows counts.
		for _, b := range p.Data {
			told, e := d.unpack(b)
			for _, r := range told {
				if !yield(r, api.OK) {
					return
				}
			}
			if e != api.OK {
				yield(row{}, e)
				return
			}
		}
	}
}

// unpack goes on with a byte of IDAT's data: the rows that it makes whole, and the first named of all errors that it shows.
func (d *Decoder) unpack(b byte) ([]row, api.Errno) {
	if d.packed.Done() {
		return nil, api.ErrTrail
	}
	text, wrong := d.packed.Push([]byte{b})
	told, fault := d.fill(text)
	switch {
	case wrong != api.OK:
		return told, wrong
	case fault != api.OK:
		return told, fault
	case d.packed.Done() && len(d.coming) > 0:
		return told, api.ErrMissing
	}
	return told, api.OK
}

// fill goes on with the lines' bytes that one byte told: the rows that they make whole. Behind a row that has a fault none is told, but filters are looked at still: a wrong one is named ahead of that fault.
func (d *Decoder) fill(text []byte) (told []row, fault api.Errno) {
	for len(text) > 0 && len(d.coming) > 0 {
		n := min(d.size()-len(d.filled), len(text))
		d.filled = append(d.filled, text[:n]...)
		text = text[n:]
		if !isFilter(d.filled[0]) {
			return told, api.ErrFilter
		}
		if len(d.filled) < d.size() {
			return told, fault
		}
		r, e := d.finish()
		switch {
		case e != api.OK:
			fault = e
		case fault == api.OK:
			told = append(told, r)
			d.told++
		}
	}
	return told, fault
}

// isFilter asks layer 13 of a row without bytes.
func isFilter(kind byte) bool {
	_, e := filter.Undo(int(kind), nil, nil, 1)
	return e == api.OK
}

// finish makes the next line of its bytes, which are all there.
func (d *Decoder) finish() (row, api.Errno) {
	line := d.coming[0]
	d.coming[0] = api.Line{} // else what was told would be kept
	d.coming = d.coming[1:]
	if line.Pass != d.pass {
		d.pass, d.above = line.Pass, nil
	}
	step := max(d.pixelBits()/byteBits, 1)
	d.above, _ = filter.Undo(int(d.filled[0]), d.filled[1:], d.above, step)
	d.filled = nil
	return d.paint(line, d.above)
}

// paint gives a line its colours: they are those of a picture of one row.
func (d *Decoder) paint(line api.Line, b []byte) (row, api.Errno) {
	r := d.raster
	r.Head.W, r.Head.H = len(line.Spots), 1
	r.Samples, _ = pixel.Unpack(b, r.Head.Depth, r.Head.W*head.Samples(r.Head.Color))
	image, e := pixel.Image(r)
	if e != api.OK {
		return row{}, e
	}
	line.Cols = image.Pix
	return row{line, r.Samples}, api.OK
}

// size is how many bytes the next line has, with that of its filter.
func (d *Decoder) size() int {
	return 1 + (len(d.coming[0].Spots)*d.pixelBits()+byteBits-1)/byteBits
}

// pixelBits is how many bits a pixel's samples have.
func (p *picture) pixelBits() int {
	return head.Samples(p.raster.Head.Color) * p.raster.Head.Depth
}

// lay lays the samples at their places among those of a picture that is so wide.
func (r row) lay(all []int, wide int) {
	n := len(r.samples) / len(r.Spots)
	for i, s := range r.Spots {
		copy(all[(s.Y*wide+s.X)*n:], r.samples[i*n:(i+1)*n])
	}
}
