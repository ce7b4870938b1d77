package sender

import (
	"math"
	"testing"

	"halftone/api"
)

const (
	greatestN   = 1048577
	greatestGap = 65536
)

// TestP23_1Bounds holds that each argument may be from its least to its greatest, and no other.
func TestP23_1Bounds(t *testing.T) {
	for _, c := range []struct {
		n, window, first, most int
		may                    bool
	}{
		{0, 1, 1, 1, true}, {-1, 1, 1, 1, false}, {math.MinInt, 1, 1, 1, false},
		{greatestN, 1, 1, 1, true}, {greatestN + 1, 1, 1, 1, false}, {math.MaxInt, 1, 1, 1, false},
		{5, 0, 1, 1, false}, {5, -1, 1, 1, false}, {5, math.MinInt, 1, 1, false},
		{5, 64, 1, 1, true}, {5, 65, 1, 1, false}, {5, math.MaxInt, 1, 1, false},
		{5, 3, 0, 1, false}, {5, 3, -1, 1, false}, {5, 3, math.MinInt, 1, false}, {5, 3, 0, 0, false}, {5, 3, -2, -1, false},
		{5, 3, 4, 4, true}, {5, 3, 5, 4, false}, {5, 3, 3, 4, true}, {5, 3, math.MaxInt, 4, false},
		{5, 3, 1, greatestGap, true}, {5, 3, 1, greatestGap + 1, false}, {5, 3, 1, math.MaxInt, false}, {5, 3, 1, math.MinInt, false},
		{5, 3, greatestGap, greatestGap, true}, {5, 3, greatestGap + 1, greatestGap + 1, false}, {5, 3, 1, 0, false},
		{greatestN, 64, greatestGap, greatestGap, true},
	} {
		s, e := New(c.n, c.window, c.first, c.most)
		if c.may && (e != api.OK || s == nil) {
			t.Error(c, s, e)
		}
		if !c.may && (e != api.ErrArg || s != nil) {
			t.Error(c, s, e)
		}
	}
}

// TestP23_1Begin holds what stands ahead of the first Tick, and which items the first one sends: of none, of fewer than the window has, of as many, and of more.
func TestP23_1Begin(t *testing.T) {
	for _, c := range []struct{ n, window, sent int }{
		{0, 1, 0}, {0, 64, 0}, {1, 1, 1}, {1, 2, 1}, {3, 5, 3}, {5, 5, 5}, {6, 5, 5}, {63, 64, 63}, {64, 64, 64}, {65, 64, 64}, {greatestN, 64, 64},
	} {
		s := with(t, c.n, c.window, 3, 9)
		stands(t, s, 0, 0, c.n == 0)
		ticks(t, s, span(0, c.sent), nil, nil, span(0, c.sent), nil)
		stands(t, s, 0, c.sent, c.n == 0)
	}
}

// TestP23_1Nil holds that a nil sender answers nothing.
func TestP23_1Nil(t *testing.T) {
	var s *Sender
	s.Ack(3, [][2]int{{0, 5}})
	ticks(t, s, nil, nil)
	stands(t, s, 0, 0, false)
	s.Ack(0, nil)
	stands(t, s, 0, 0, false)
}

// TestP23_1Example is the chapter's.
func TestP23_1Example(t *testing.T) {
	s := with(t, 3, 2, 1, 4)
	ticks(t, s, row(0, 1), row(0, 1))
	s.Ack(1, nil)
	ticks(t, s, row(2), row(1, 2))
	stands(t, s, 1, 2, false)
	s.Ack(3, nil)
	stands(t, s, 3, 0, true)
	ticks(t, s, nil, nil, nil)
}
