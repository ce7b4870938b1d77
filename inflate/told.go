package inflate

import (
	"halftone/api"
	"halftone/huff"
)

// Of the counts at the beginning of a told block: their bits, and what each of them counts from.
const (
	countBits     = 5
	codeCountBits = 4
	countsBits    = 2*countBits + codeCountBits
	leastLiterals = 257
	leastFar      = 1
	leastCodeLens = 4
	mostLiterals  = 286
)

// Of the code by which the lengths are told.
const (
	codeLenBits = 3
	codeSymbols = 19
	lastAgain   = 16
	fewNoughts  = 17
	manyNoughts = 18
)

// codeOrder is of which symbol the lengths of that code come.
var codeOrder = [codeSymbols]int{16, 17, 18, 0, 8, 7, 9, 6, 10, 5, 11, 4, 12, 3, 13, 2, 14, 1, 15}

// lens is what has come of a told block's lengths.
type lens struct {
	literals int // how many of them are literals'
	all      int // how many there should be, the distances' among them
	codeLens int // how many lengths the code has by which they are told
	code     *huff.Code
	row      []int
	again    int // the length that comes so often as a number says
}

func (d *Decoder) readCounts() api.Errno {
	if d.in.Have() < countsBits {
		return api.ErrShort
	}
	literals, _ := d.in.Take(countBits)
	far, _ := d.in.Take(countBits)
	codeLens, _ := d.in.Take(codeCountBits)
	literals += leastLiterals
	far += leastFar
	if literals > mostLiterals || far > distances {
		return api.ErrCode
	}
	d.lens = lens{literals: literals, all: literals + far, codeLens: codeLens + leastCodeLens}
	d.now = atCodeLens
	return api.OK
}

func (d *Decoder) readCodeLens() api.Errno {
	if d.in.Have() < d.lens.codeLens*codeLenBits {
		return api.ErrShort
	}
	ls := make([]int, codeSymbols)
	words := 0
	for i := range d.lens.codeLens {
		sym := codeOrder[i]
		ls[sym], _ = d.in.Take(codeLenBits)
		words += min(ls[sym], 1)
	}
	code, e := huff.New(ls)
	if e != api.OK || words == 0 {
		return api.ErrCode
	}
	d.lens.code = code
	d.now = atLens
	return api.OK
}

func (d *Decoder) readLens() api.Errno {
	sym, e := d.lens.code.Next(&d.in)
	if e != api.OK {
		return e
	}
	d.now = atAgain
	d.lens.again = 0
	switch sym {
	case lastAgain:
		if len(d.lens.row) == 0 {
			return api.ErrCode
		}
		d.lens.again = d.lens.row[len(d.lens.row)-1]
		d.number = number{3, 2}
	case fewNoughts:
		d.number = number{3, 3}
	case manyNoughts:
		d.number = number{11, 7}
	default:
		d.now = atLens
		return d.lengthen(sym, 1)
	}
	return api.OK
}

func (d *Decoder) readAgain() api.Errno {
	times, ok := d.take()
	if !ok {
		return api.ErrShort
	}
	d.now = atLens
	return d.lengthen(d.lens.again, times)
}

// lengthen puts a length behind the row so often, and makes the codes of the row if that was its end.
func (d *Decoder) lengthen(length, times int) api.Errno {
	if len(d.lens.row)+times > d.lens.all {
		return api.ErrCode
	}
	for range times {
		d.lens.row = append(d.lens.row, length)
	}
	if len(d.lens.row) < d.lens.all {
		return api.OK
	}
	return d.endLens()
}

// endLens makes the block's codes.
func (d *Decoder) endLens() api.Errno {
	row, n := d.lens.row, d.lens.literals
	d.lens = lens{}
	if row[endSymbol] == 0 {
		return api.ErrCode
	}
	literals, e := huff.New(row[:n])
	if e != api.OK {
		return api.ErrCode
	}
	far, e := huff.New(row[n:])
	if e != api.OK {
		return api.ErrCode
	}
	d.codes = pair{literals, far}
	d.now = atSymbol
	return api.OK
}
