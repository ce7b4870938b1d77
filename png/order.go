package png

import (
	"halftone/api"
)

// The kinds of chunks that say something.
const (
	headKind  = "IHDR"
	tintsKind = "PLTE"
	clearKind = "tRNS"
	dataKind  = "IDAT"
	endKind   = "IEND"
)

// listed is the kind of colours that needs a table.
const listed = 3

// order is which chunks there were.
type order struct {
	begun  bool // any
	table  bool // PLTE
	cover  bool // tRNS
	data   bool // IDAT
	behind bool // another one behind IDAT
	ended  bool // IEND, up to its end
}

// begin looks at a chunk of which no more than the size and the kind need to be there.
func (d *Decoder) begin(p api.Piece) api.Errno {
	table := d.raster.Head.Color == listed
	switch {
	case d.ended:
		return api.ErrTrail
	case !d.mayCome(p, table):
		return api.ErrOrder
	case p.Kind == dataKind && table && !d.table:
		return api.ErrPalette
	case p.Kind != dataKind && d.data && !d.packed.Done():
		return api.ErrMissing
	}
	d.note(p.Kind)
	return api.OK
}

// mayCome is whether a chunk may stand behind those that there were.
func (o *order) mayCome(p api.Piece, needsTable bool) bool {
	if !o.begun {
		return p.Kind == headKind
	}
	switch p.Kind {
	case tintsKind:
		return !o.table && !o.data
	case clearKind:
		return !o.cover && !o.data && (o.table || !needsTable)
	case dataKind:
		return !o.behind
	case endKind:
		return o.data && p.Size == 0
	}
	return !isGreat(p.Kind[0])
}

// isGreat is whether a letter says that whoever doesn't know the chunk can't read the file.
func isGreat(letter byte) bool { return letter >= 'A' && letter <= 'Z' }

// note remembers a chunk.
func (o *order) note(kind string) {
	o.begun = true
	switch kind {
	case tintsKind:
		o.table = true
	case clearKind:
		o.cover = true
	case dataKind:
		o.data = true
	}
	o.behind = o.data && kind != dataKind
}
