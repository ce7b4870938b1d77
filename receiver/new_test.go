package receiver

import (
	"math"
	"testing"

	"halftone/api"
)

// TestP24_1Bounds holds that each argument may be from its least to its greatest, and no other.
func TestP24_1Bounds(t *testing.T) {
	for _, c := range []struct {
		n, window int
		may       bool
	}{
		{0, 1, true}, {-1, 1, false}, {math.MinInt, 1, false}, {1, 1, true},
		{greatestN - 1, 1, true}, {greatestN, 1, true}, {greatestN + 1, 1, false}, {math.MaxInt, 1, false},
		{5, 0, false}, {5, -1, false}, {5, math.MinInt, false}, {5, 2, true},
		{5, 63, true}, {5, 64, true}, {5, 65, false}, {5, math.MaxInt, false},
		{greatestN, 64, true}, {0, 64, true}, {-1, 0, false}, {greatestN + 1, 65, false},
	} {
		r, e := New(c.n, c.window)
		if c.may && (e != api.OK || r == nil) {
			t.Error(c, r, e)
		}
		if !c.may && (e != api.ErrArg || r != nil) {
			t.Error(c, r, e)
		}
	}
}

// TestP24_1Nil holds that a nil receiver answers nothing.
func TestP24_1Nil(t *testing.T) {
	var r *Receiver
	refuses(t, r, -1, 0, 1)
	stands(t, r, 0, 0, false)
}

// TestP24_1None holds that of no items all have come, and none may.
func TestP24_1None(t *testing.T) {
	r := with(t, 0, 3)
	stands(t, r, 0, 0, true)
	refuses(t, r, -1, 0, 1, 2, 3, math.MinInt, math.MaxInt)
}

// TestP24_1Example is the chapter's.
func TestP24_1Example(t *testing.T) {
	r := with(t, 4, 3)
	takes(t, r, 2, "x")
	stands(t, r, 0, 1, false, [2]int{2, 3})
	takes(t, r, 0, "y", "y")
	takes(t, r, 1, "z", "z", "x")
	stands(t, r, 3, 0, false)
	refuses(t, r, 1)
	takes(t, r, 3, "w", "w")
	stands(t, r, 4, 0, true)
	refuses(t, r, 0, 3, 4)
}
