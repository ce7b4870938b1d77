package ingest

import (
	"math/bits"

	"halftone/adam"
	"halftone/api"
	"halftone/blocks"
	"halftone/lzw"
	"halftone/pixel"
	"halftone/screen"
)

const (
	mostBlock = 255 // bytes of a block
	coversAll = 255 // of an Alpha
	noBare    = -1  // as a screen says it
	leastBits = 2   // of a code
	trailer   = 59  // the last byte of a file
)

// Gif writes a GIF.
func Gif(r api.Raster, late, size int) ([]byte, api.Errno) {
	if late < 0 || size < 1 || size > mostBlock {
		return nil, api.ErrArg
	}
	if e := pixel.Check(r); e != api.OK {
		return nil, e
	}
	if r.Head.Color != listed || r.Head.Depth != byteBits {
		return nil, api.ErrHead
	}
	bare, e := bareOf(r.Alpha)
	if e != api.OK {
		return nil, e
	}
	file, e := drawn(r, screenOf(r, bare), late, size)
	if e == api.OK && len(file) > api.MaxFile {
		return nil, api.ErrLong
	}
	return file, e
}

// bareOf is the place of the one colour that covers nothing, if there is one.
func bareOf(alpha []int) (int, api.Errno) {
	bare := noBare
colours:
	for i, v := range alpha {
		if v == coversAll {
			continue colours
		}
		if v != 0 || bare != noBare {
			return 0, api.ErrPalette
		}
		bare = i
	}
	return bare, api.OK
}

// screenOf is what stands ahead of the picture.
func screenOf(r api.Raster, bare int) api.Screen {
	// A table has at least two colours, and as many as so many bits can say.
	n := max(bits.Len(uint(len(r.Tints)-1)), 1)
	tints := make([]api.Tint, 1<<n)
	copy(tints, r.Tints)
	return api.Screen{W: r.Head.W, H: r.Head.H, Tints: tints, Clear: bare, Laced: r.Head.Laced, Bits: max(n, leastBits)}
}

// drawn is the file that has this screen, however long it is.
func drawn(r api.Raster, s api.Screen, late, size int) ([]byte, api.Errno) {
	start, e := screen.Write(s)
	if e != api.OK {
		return nil, e
	}
	codes, e := lzw.Pack(numbers(r), s.Bits, late)
	if e != api.OK {
		return nil, e
	}
	parts, e := blocks.Pack(codes, size)
	if e != api.OK {
		return nil, e
	}
	return append(append(start, parts...), trailer), api.OK
}

// numbers is the samples, line by line.
func numbers(r api.Raster) (out []byte) {
	for _, samples := range lines(r, adam.Woven(r.Head.W, r.Head.H, r.Head.Laced)) {
		for _, v := range samples {
			out = append(out, byte(v))
		}
	}
	return out
}
