package sender

import (
	"math"
	"testing"
)

// under is a sender of 10 items with a window of 6, of which 0 to 2 are acked, and 3 to 8 sent.
func under(t *testing.T) *Sender {
	t.Helper()
	s := with(t, 10, 6, 9, 9)
	ticks(t, s, span(0, 6))
	s.Ack(3, nil)
	ticks(t, s, span(6, 9))
	stands(t, s, 3, 6, false)
	return s
}

// TestP23_1Next holds which items are acked by next alone.
func TestP23_1Next(t *testing.T) {
	for _, c := range []struct{ next, base, flight int }{
		{0, 3, 6}, {-1, 3, 6}, {math.MinInt, 3, 6}, {2, 3, 6}, {3, 3, 6}, {4, 4, 5}, {8, 8, 1}, {9, 9, 0},
		{10, 9, 0}, {11, 9, 0}, {math.MaxInt, 9, 0},
	} {
		s := under(t)
		s.Ack(c.next, nil)
		stands(t, s, c.base, c.flight, false)
		if c.base > 3 {
			ticks(t, s, row(9))
			s.Ack(c.next, [][2]int{})
			stands(t, s, max(c.base, min(c.next, 10)), 10-max(c.base, min(c.next, 10)), c.next >= 10)
		}
	}
}

// TestP23_1Ranges holds which items are acked by ranges: what comes of them are the base and what is sent next.
func TestP23_1Ranges(t *testing.T) {
	all := []([2]int){{math.MinInt, math.MaxInt}}
	for _, c := range []struct {
		ranges       [][2]int
		base, flight int
	}{
		{nil, 3, 6},
		{[][2]int{{4, 5}}, 3, 5},
		{[][2]int{{3, 4}}, 4, 5},
		{[][2]int{{3, 9}}, 9, 0},
		{[][2]int{{4, 9}}, 3, 1},
		{[][2]int{{3, 5}, {5, 7}}, 7, 2},
		{[][2]int{{5, 7}, {3, 5}}, 7, 2},
		{[][2]int{{3, 6}, {4, 8}}, 8, 1},
		{[][2]int{{4, 8}, {4, 8}}, 3, 2},
		{[][2]int{{8, 9}, {4, 5}, {6, 7}, {3, 4}}, 5, 2},
		{[][2]int{{8, 9}, {7, 8}, {6, 7}, {5, 6}, {4, 5}, {3, 4}}, 9, 0},
		{[][2]int{{4, 4}, {3, 3}}, 3, 6},
		{[][2]int{{7, 4}, {9, 3}}, 3, 6},
		{[][2]int{{math.MaxInt, math.MinInt}}, 3, 6},
		{[][2]int{{-5, -2}, {-1, 0}}, 3, 6},
		{[][2]int{{-5, 4}}, 4, 5},
		{[][2]int{{0, 3}, {1, 2}}, 3, 6},
		{[][2]int{{0, 5}}, 5, 4},
		{[][2]int{{7, 10}}, 3, 4},
		{[][2]int{{9, 10}, {10, 20}}, 3, 6},
		{[][2]int{{8, math.MaxInt}}, 3, 5},
		{all, 9, 0},
	} {
		s := under(t)
		s.Ack(0, c.ranges)
		stands(t, s, c.base, c.flight, false)
	}
}

// TestP23_1Both holds that next and ranges count together.
func TestP23_1Both(t *testing.T) {
	s := under(t)
	s.Ack(5, [][2]int{{5, 6}, {7, 8}})
	stands(t, s, 6, 2, false)
	ticks(t, s, row(9))
	s.Ack(7, nil)
	stands(t, s, 8, 2, false)
	s.Ack(-3, [][2]int{{9, 10}})
	stands(t, s, 8, 1, false)
	s.Ack(9, nil)
	stands(t, s, 10, 0, true)
	s.Ack(0, nil)
	stands(t, s, 10, 0, true)
}

// TestP23_1Unsent holds that what was never sent isn't acked, and is sent later.
func TestP23_1Unsent(t *testing.T) {
	s := with(t, 4, 2, 5, 5)
	s.Ack(4, [][2]int{{0, 4}})
	stands(t, s, 0, 0, false)
	ticks(t, s, row(0, 1))
	s.Ack(4, [][2]int{{0, 4}})
	stands(t, s, 2, 0, false)
	s.Ack(4, nil)
	stands(t, s, 2, 0, false)
	ticks(t, s, row(2, 3))
	s.Ack(0, [][2]int{{2, 4}})
	stands(t, s, 4, 0, true)
}

// TestP23_1Empty holds that of no items all are acked.
func TestP23_1Empty(t *testing.T) {
	s := with(t, 0, 3, 1, 1)
	s.Ack(3, [][2]int{{0, 3}})
	stands(t, s, 0, 0, true)
	ticks(t, s, nil, nil)
	stands(t, s, 0, 0, true)
}
