package head

import (
	"halftone/api"
	"halftone/octets"
)

// ReadTints reads a table of colours.
func ReadTints(h api.Head, b []byte) ([]api.Tint, api.Errno) {
	switch {
	case !May(h):
		return nil, api.ErrHead
	case len(b)%tintSize != 0 || !mayHave(h, len(b)/tintSize):
		return nil, api.ErrPalette
	}
	l := make([]api.Tint, len(b)/tintSize)
	for i := range l {
		at := i * tintSize
		l[i] = api.Tint{R: b[at], G: b[at+1], B: b[at+2]}
	}
	return l, api.OK
}

// mayHave is whether a picture may have a table of n colours.
func mayHave(h api.Head, n int) bool {
	switch h.Color {
	case full, fullCover:
		return n >= 1 && n <= mostTint
	case listed:
		return n >= 1 && n <= 1<<h.Depth
	}
	return false
}

// WriteTints writes a table of colours.
func WriteTints(l []api.Tint) []byte {
	b := make([]byte, 0, tintSize*len(l))
	for _, t := range l {
		b = append(b, t.R, t.G, t.B)
	}
	return b
}

// ReadClear reads what covers nothing, or less.
func ReadClear(h api.Head, tints int, b []byte) ([]int, []int, api.Errno) {
	if !May(h) {
		return nil, nil, api.ErrHead
	}
	switch h.Color {
	case listed:
		alpha, e := readAlpha(tints, b)
		return alpha, nil, e
	case grey, full:
		samples, e := readSamples(h, b)
		return nil, samples, e
	}
	return nil, nil, api.ErrPalette
}

// readAlpha reads how much each of the first colours of a table covers.
func readAlpha(tints int, b []byte) ([]int, api.Errno) {
	if len(b) == 0 || len(b) > tints {
		return nil, api.ErrPalette
	}
	alpha := make([]int, len(b))
	for i, v := range b {
		alpha[i] = int(v)
	}
	return alpha, api.OK
}

// readSamples reads the samples of the one pixel that covers nothing.
func readSamples(h api.Head, b []byte) ([]int, api.Errno) {
	if len(b) != wordSize*Samples(h.Color) {
		return nil, api.ErrPalette
	}
	c := octets.New(b)
	var l []int
	for c.Left() > 0 {
		v := c.Big(wordSize)
		if v >= 1<<h.Depth {
			return nil, api.ErrPalette
		}
		l = append(l, v)
	}
	return l, api.OK
}

// WriteClear writes what covers nothing, or less.
func WriteClear(h api.Head, alpha, clear []int) []byte {
	switch h.Color {
	case listed:
		return putAll(1, alpha)
	case grey, full:
		return putAll(wordSize, clear)
	}
	return nil
}

// putAll is n bytes of each number, the highest first.
func putAll(n int, l []int) []byte {
	var b []byte
	for _, v := range l {
		b = append(b, octets.PutBig(n, v)...)
	}
	return b
}
