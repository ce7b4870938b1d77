package pixel

import (
	"halftone/api"
)

const (
	byteBits = 8
	twoBytes = 16 // the one depth of which a sample doesn't stand within a byte
)

// Pack puts samples into bytes.
func Pack(samples []int, depth int) ([]byte, api.Errno) {
	if !isDepth(depth) || !allBelow(1<<depth, samples) {
		return nil, api.ErrArg
	}
	b := make([]byte, (len(samples)*depth+byteBits-1)/byteBits)
	for i, v := range samples {
		put(b, i, depth, v)
	}
	return b, api.OK
}

// Unpack gets samples out of bytes.
func Unpack(b []byte, depth, n int) ([]int, api.Errno) {
	switch {
	case !isDepth(depth) || n < 0:
		return nil, api.ErrArg
	case n > len(b)*byteBits/depth:
		return nil, api.ErrShort
	}
	l := make([]int, n)
	for i := range l {
		l[i] = get(b, i, depth)
	}
	return l, api.OK
}

func isDepth(depth int) bool {
	switch depth {
	case 1, 2, 4, 8, 16:
		return true
	}
	return false
}

// allBelow is whether all numbers are 0 or more, and below end.
func allBelow(end int, l []int) bool {
	for _, v := range l {
		if v < 0 || v >= end {
			return false
		}
	}
	return true
}

// put lays a sample at its place among noughts.
func put(b []byte, i, depth, v int) {
	if depth == twoBytes {
		b[2*i], b[2*i+1] = byte(v>>byteBits), byte(v)
		return
	}
	at, behind := place(i, depth)
	b[at] |= byte(v << behind)
}

// get is the sample at a place.
func get(b []byte, i, depth int) int {
	if depth == twoBytes {
		return int(b[2*i])<<byteBits | int(b[2*i+1])
	}
	at, behind := place(i, depth)
	return int(b[at]>>behind) & (1<<depth - 1)
}

// place is in which byte a sample stands, and how many of the byte's bits stand behind it.
func place(i, depth int) (at, behind int) {
	first := i * depth
	return first / byteBits, byteBits - depth - first%byteBits
}
