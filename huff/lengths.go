package huff

import (
	"cmp"
	"slices"

	"halftone/api"
)

// mostCount is the greatest count of a symbol.
const mostCount = 1 << 31

// parcel is symbols, some of them more than once, that are taken together or not at all: each time a symbol is taken its word has one bit more.
type parcel struct {
	weight int
	syms   []int
}

// Lengths is the best lengths: parcels are put together, two by two, as often as a word may have bits.
func Lengths(counts []int, most int) ([]int, api.Errno) {
	if !countable(counts) || most < 1 || most > api.MaxBits {
		return nil, api.ErrArg
	}
	some := withWord(counts)
	if some > 1<<most {
		return nil, api.ErrCode
	}
	lens := make([]int, len(counts))
	single := singles(counts)
	if some == 1 {
		lens[single[0].syms[0]] = 1
		return lens, api.OK
	}
	row := single
	for range most - 1 {
		row = laid(single, paired(row))
	}
	// Of n words a code has n - 1 forks: so many pairs are taken, the lightest ones.
	for _, p := range row[:max(0, 2*some-2)] {
		for _, sym := range p.syms {
			lens[sym]++
		}
	}
	return lens, api.OK
}

// countable is whether there may be such counts.
func countable(counts []int) bool {
	if len(counts) > api.MaxSymbols {
		return false
	}
	for _, n := range counts {
		if n < 0 || n > mostCount {
			return false
		}
	}
	return true
}

// singles are the parcels of one symbol each, the lightest first.
func singles(counts []int) []parcel {
	var row []parcel
	for sym, n := range counts {
		if n > 0 {
			row = append(row, parcel{n, []int{sym}})
		}
	}
	slices.SortStableFunc(row, func(a, b parcel) int { return cmp.Compare(a.weight, b.weight) })
	return row
}

// paired is a row's parcels put together, two by two; a last one without another is left out.
func paired(row []parcel) []parcel {
	var pairs []parcel
	for len(row) > 1 {
		a, b := row[0], row[1]
		pairs = append(pairs, parcel{a.weight + b.weight, slices.Concat(a.syms, b.syms)})
		row = row[2:]
	}
	return pairs
}

// laid is both rows in one, the lightest parcels first.
func laid(single, pairs []parcel) []parcel {
	var row []parcel
next:
	for _, s := range single {
		for i, p := range pairs {
			if s.weight <= p.weight {
				row = append(append(row, pairs[:i]...), s)
				pairs = pairs[i:]
				continue next
			}
		}
		row = append(append(row, pairs...), s)
		pairs = nil
	}
	return append(row, pairs...)
}
