package lzw

import (
	"iter"
	"slices"
)

const (
	lowestLeast  = 2
	highestLeast = 8
	mostCodes    = 4096
	mostWidth    = 12
)

func isLeast(least int) bool { return lowestLeast <= least && least <= highestLeast }

// clearCode is also how many roots there are.
func clearCode(least int) int { return 1 << least }

func endCode(least int) int { return clearCode(least) + 1 }

// furtherCode is the first one behind end.
func furtherCode(least int) int { return endCode(least) + 1 }

// width is how many bits the next code has, if whoever reads it has so many codes in the table.
func width(least, count int) int {
	n := least + 1
	for n < mostWidth && count>>n > 0 {
		n++
	}
	return n
}

// text is that of a code, and a byte behind it.
type text struct {
	ahead int
	last  byte
}

const noCode = -1

// table has the codes of whoever reads.
type table struct {
	least   int
	further []text // those of the codes behind end
	ahead   int    // the code that was read last; noCode: the next one is a first one
}

func newTable(least int) table { return table{least: least, ahead: noCode} }

func (t *table) count() int { return furtherCode(t.least) + len(t.further) }

func (t *table) empty() {
	t.further = t.further[:0]
	t.ahead = noCode
}

// follow is whether a code, neither clear nor end, may come next. If so, the text that comes by it is in the table then, so that the code has its own in every case.
func (t *table) follow(code int) bool {
	switch {
	case t.ahead == noCode:
		if code >= clearCode(t.least) {
			return false
		}
	case code < t.count():
		t.learn(t.first(code))
	case code == t.count():
		t.learn(t.first(t.ahead))
	default:
		return false
	}
	t.ahead = code
	return true
}

// learn takes the text of the code ahead, with a byte behind it, in, if there is room.
func (t *table) learn(last byte) {
	if t.count() < mostCodes {
		t.further = append(t.further, text{t.ahead, last})
	}
}

// first is the first byte of a code's text.
func (t *table) first(code int) byte {
	for code >= furtherCode(t.least) {
		code = t.further[code-furtherCode(t.least)].ahead
	}
	return byte(code)
}

// text tells the bytes of a code's text. They are found from the last one on, but told from the first one on.
func (t *table) text(code int) iter.Seq[byte] {
	return func(yield func(byte) bool) {
		var turned []byte
		at := code
		for at >= furtherCode(t.least) {
			part := t.further[at-furtherCode(t.least)]
			turned = append(turned, part.last)
			at = part.ahead
		}
		turned = append(turned, byte(at))
		for _, b := range slices.Backward(turned) {
			if !yield(b) {
				return
			}
		}
	}
}
