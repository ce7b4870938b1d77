package screen

import (
	"math/bits"

	"halftone/api"
	"halftone/octets"
)

// plainMarks are the marks of every screen that is written.
const plainMarks = 112

// mostClear is the last colour that there may be.
const mostClear = mostTint - 1

// Write writes a beginning.
func Write(s api.Screen) ([]byte, api.Errno) {
	if e := check(s); e != api.OK {
		return nil, e
	}
	out := []byte(name)
	out = append(out, sides(s)...)
	out = append(out, byte(screenMarks(s)), 0, 0)
	if !s.Local {
		out = append(out, table(s)...)
	}
	if s.Clear != noClear {
		out = append(out, extension, coverLabel, coverText, coverSaid, 0, 0, byte(s.Clear), 0)
	}
	out = append(out, picture, 0, 0, 0, 0)
	out = append(out, sides(s)...)
	out = append(out, byte(pictureMarks(s)))
	if s.Local {
		out = append(out, table(s)...)
	}
	return append(out, byte(s.Bits)), api.OK
}

// check asks whether there may be such a beginning.
func check(s api.Screen) api.Errno {
	switch {
	case !maySides(s.W, s.H):
		return api.ErrHead
	case !mayTable(len(s.Tints)):
		return api.ErrPalette
	case s.Clear < noClear || s.Clear > mostClear || !mayBits(s.Bits):
		return api.ErrArg
	}
	return api.OK
}

// mayTable is whether marks can say that a table has n colours.
func mayTable(n int) bool { return n >= fewestTint && n <= mostTint && n&(n-1) == 0 }

// sizeOf is how marks say how many colours there are.
func sizeOf(s api.Screen) int { return bits.TrailingZeros(uint(len(s.Tints) / fewestTint)) }

func screenMarks(s api.Screen) int {
	marks := plainMarks | sizeOf(s)
	if !s.Local {
		marks |= tableMark
	}
	return marks
}

func pictureMarks(s api.Screen) int {
	marks := 0
	if s.Local {
		marks |= tableMark | sizeOf(s)
	}
	if s.Laced {
		marks |= lacedMark
	}
	return marks
}

// sides are the width and the height.
func sides(s api.Screen) []byte {
	return append(octets.PutLittle(sideSize, s.W), octets.PutLittle(sideSize, s.H)...)
}

// table is the colours.
func table(s api.Screen) []byte {
	var out []byte
	for _, t := range s.Tints {
		out = append(out, t.R, t.G, t.B)
	}
	return out
}
