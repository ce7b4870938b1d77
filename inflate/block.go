package inflate

import (
	"halftone/api"
	"halftone/bits"
	"halftone/huff"
)

// Of a block's head and of its two numbers, if it is stored.
const (
	headBits = 3
	sizeBits = 16
	sizeMost = 1<<sizeBits - 1
)

// The symbols of the literals' code.
const (
	endSymbol    = 256
	firstLength  = 257
	lastLength   = 285
	longestCopy  = 258
	shortestCopy = 3
	nearestCopy  = 1
)

// In the fixed codes there are words that mean nothing, too: without them the others would be no code.
const (
	fixedLiterals  = 288
	fixedDistances = 32
	fixedFarBits   = 5
	distances      = 30
)

// number is what a word begins: least is its least, and so many bits tell what is added to it.
type number struct{ least, bits int }

// spread is the number of the k-th symbol, where so many at a time have one bit more than those ahead: the first and the second group have none.
func spread(k, group int) number {
	if k < group {
		return number{k, 0}
	}
	n := k/group - 1
	return number{(group + k%group) << n, n}
}

// take reads a number's bits.
func (d *Decoder) take() (int, bool) {
	more, ok := d.in.Take(d.number.bits)
	return d.number.least + more, ok
}

func (d *Decoder) readHead() api.Errno {
	head, ok := d.in.Take(headBits)
	if !ok {
		return api.ErrShort
	}
	d.last = head&1 == 1
	switch head >> 1 {
	case 0:
		d.now = atSize
	case 1:
		d.codes = d.fixedCodes()
		d.now = atSymbol
	case 2:
		d.now = atCounts
	default:
		return api.ErrForm
	}
	return api.OK
}

func (d *Decoder) readSize() api.Errno {
	// To let the bits go ahead of the numbers' coming is nothing that could be told: none of them is asked for.
	d.in.Align()
	both, ok := d.in.Take(2 * sizeBits)
	if !ok {
		return api.ErrShort
	}
	d.left = both & sizeMost
	if both>>sizeBits != sizeMost-d.left {
		return api.ErrStored
	}
	d.now = atStored
	if d.left == 0 {
		d.endBlock()
	}
	return api.OK
}

func (d *Decoder) readStored() api.Errno {
	b, ok := d.in.Take(byteBits)
	if !ok {
		return api.ErrShort
	}
	if e := d.tell(byte(b)); e != api.OK {
		return e
	}
	d.left--
	if d.left == 0 {
		d.endBlock()
	}
	return api.OK
}

func (d *Decoder) readSymbol() api.Errno {
	sym, e := d.codes.literals.Next(&d.in)
	switch {
	case e != api.OK:
		return e
	case sym < endSymbol:
		return d.tell(byte(sym))
	case sym == endSymbol:
		d.endBlock()
		return api.OK
	case sym > lastLength:
		return api.ErrSymbol
	}
	d.number = copyLength(sym)
	d.now = atLength
	return api.OK
}

// copyLength is the number that a length's symbol begins. The last symbol means what the one ahead of it could say, too, but without bits.
func copyLength(sym int) number {
	if sym == lastLength {
		return number{longestCopy, 0}
	}
	n := spread(sym-firstLength, 4)
	n.least += shortestCopy
	return n
}

func (d *Decoder) readLength() api.Errno {
	length, ok := d.take()
	if !ok {
		return api.ErrShort
	}
	d.length = length
	d.now = atDistance
	return api.OK
}

func (d *Decoder) readDistance() api.Errno {
	sym, e := d.codes.distances.Next(&d.in)
	switch {
	case e != api.OK:
		return e
	case sym >= distances:
		return api.ErrSymbol
	}
	d.number = spread(sym, 2)
	d.number.least += nearestCopy
	d.now = atFar
	return api.OK
}

func (d *Decoder) readFar() api.Errno {
	distance, ok := d.take()
	if !ok {
		return api.ErrShort
	}
	d.now = atSymbol
	return d.again(d.length, distance)
}

// endBlock goes on to the next block, if there is one. What the block had is let go.
func (d *Decoder) endBlock() {
	d.codes = pair{}
	d.now = atHead
	if !d.last {
		return
	}
	d.in.Align()
	d.rest = d.in.Bytes(d.in.Have() / byteBits)
	d.in, d.fixed = bits.Reader{}, pair{}
	d.now = atEnd
}

// fixedCodes are made once: a file of many small blocks would else be slow.
func (d *Decoder) fixedCodes() pair {
	if d.fixed.literals != nil {
		return d.fixed
	}
	lits := make([]int, fixedLiterals)
	for sym := range lits {
		lits[sym] = fixedLength(sym)
	}
	dists := make([]int, fixedDistances)
	for sym := range dists {
		dists[sym] = fixedFarBits
	}
	d.fixed.literals, _ = huff.New(lits)
	d.fixed.distances, _ = huff.New(dists)
	return d.fixed
}

// fixedLength is that of a literal's word in fixed blocks.
func fixedLength(sym int) int {
	switch {
	case sym < 144:
		return 8
	case sym < 256:
		return 9
	case sym < 280:
		return 7
	}
	return 8
}
