package sender

import (
	"slices"
	"testing"
)

// TestP23_1Hurried holds that an item above which three are acked is sent by the next Tick, with a gap twice as great, and one above which only two are isn't.
func TestP23_1Hurried(t *testing.T) {
	for _, c := range []struct {
		ranges  [][2]int
		hurried []int
	}{
		{[][2]int{{1, 3}}, nil},
		{[][2]int{{1, 4}}, row(0)},
		{[][2]int{{1, 2}, {3, 4}, {5, 6}}, row(0)},
		{[][2]int{{2, 5}}, row(0, 1)},
		{[][2]int{{5, 8}}, row(0, 1, 2, 3, 4)},
		{[][2]int{{2, 3}, {4, 6}}, row(0, 1)},
		{[][2]int{{2, 3}, {4, 5}, {6, 8}}, row(0, 1, 3)},
		{[][2]int{{6, 8}}, nil},
		{[][2]int{{0, 3}}, nil},
		{[][2]int{{0, 1}, {2, 5}}, row(1)},
	} {
		s := with(t, 8, 8, 20, 50)
		ticks(t, s, span(0, 8), nil)
		s.Ack(0, c.ranges)
		ticks(t, s, c.hurried, nil)
		if len(c.hurried) == 0 {
			continue
		}
		// Sent at 3 with the gap 40: due at 43, which is behind 38 Ticks without it.
		if got := times(s, c.hurried[0], 60); !slices.Equal(got, row(39)) {
			t.Error(c.ranges, "again at", got)
		}
	}
}

// TestP23_1HurriedMost holds that a hurried item's gap is at most most, and then goes on as ever.
func TestP23_1HurriedMost(t *testing.T) {
	s := with(t, 4, 4, 20, 30)
	ticks(t, s, span(0, 4))
	s.Ack(0, [][2]int{{1, 4}})
	ticks(t, s, row(0)) // at 2: due at 32, then at 62
	if got := times(s, 0, 61); !slices.Equal(got, row(30, 60)) {
		t.Error(got)
	}
}

// TestP23_1HurriedOnce holds that an item is hurried once, however many are acked above it later.
func TestP23_1HurriedOnce(t *testing.T) {
	s := with(t, 9, 9, 20, 20)
	ticks(t, s, span(0, 9))
	s.Ack(0, [][2]int{{1, 4}})
	ticks(t, s, row(0))
	s.Ack(0, [][2]int{{1, 4}})
	ticks(t, s, nil)
	s.Ack(0, [][2]int{{6, 9}})
	ticks(t, s, row(4, 5), nil)
	s.Ack(0, [][2]int{{5, 6}})
	if got := times(s, 0, 40); !slices.Equal(got, row(17, 37)) {
		t.Error(got)
	}
}

// TestP23_1HurriedTwice holds that one that is hurried by two Acks ahead of a Tick is sent once.
func TestP23_1HurriedTwice(t *testing.T) {
	s := with(t, 9, 9, 20, 20)
	ticks(t, s, span(0, 9))
	s.Ack(0, [][2]int{{1, 4}})
	s.Ack(0, [][2]int{{4, 6}})
	ticks(t, s, row(0), nil)
}

// TestP23_1HurriedSum holds that the acked items above count whenever they were acked, one by one.
func TestP23_1HurriedSum(t *testing.T) {
	s := with(t, 9, 6, 20, 20)
	ticks(t, s, span(0, 6))
	s.Ack(0, [][2]int{{5, 6}})
	ticks(t, s, nil)
	s.Ack(0, [][2]int{{3, 4}})
	ticks(t, s, nil)
	s.Ack(0, [][2]int{{1, 2}})
	ticks(t, s, row(0))
	s.Ack(0, [][2]int{{4, 5}})
	ticks(t, s, row(2))
}

// TestP23_1HurriedNew holds that the window counts that stands behind the Ack: those that slid out of it below don't count, and those that are new in it were never sent.
func TestP23_1HurriedNew(t *testing.T) {
	s := with(t, 12, 5, 20, 20)
	ticks(t, s, span(0, 5))
	s.Ack(2, [][2]int{{3, 5}}) // the window is 2 to 6: 3 and 4 are acked above 2
	ticks(t, s, span(5, 7))
	stands(t, s, 2, 3, false)
	s.Ack(0, [][2]int{{6, 7}}) // three above 2; one above 5
	ticks(t, s, row(2))
	s.Ack(3, nil) // 5 to 9
	stands(t, s, 5, 1, false)
	ticks(t, s, span(7, 10))
	s.Ack(0, [][2]int{{7, 9}})
	ticks(t, s, row(5))
}

// TestP23_1HurriedLast holds that an item at the base, with the window full of acked ones above, is hurried, as is one at the window's fourth place from its end.
func TestP23_1HurriedLast(t *testing.T) {
	s := with(t, 70, 64, 20, 20)
	ticks(t, s, span(0, 64))
	s.Ack(0, [][2]int{{1, 60}, {61, 64}})
	ticks(t, s, row(0, 60))
	stands(t, s, 0, 2, false)
	s.Ack(1, nil)
	ticks(t, s, span(64, 70))
	stands(t, s, 60, 7, false)
}

// TestP23_1HurriedDue holds that one that would have been due anyway is sent by the Tick in which it is, and its hurry is spent.
func TestP23_1HurriedDue(t *testing.T) {
	s := with(t, 7, 7, 1, 9)
	ticks(t, s, span(0, 7))
	s.Ack(0, [][2]int{{1, 4}})
	ticks(t, s, row(0, 4, 5, 6), nil, row(0, 4, 5, 6)) // 0 and the others due at 8
	s.Ack(0, [][2]int{{4, 5}, {6, 7}})
	ticks(t, s, nil, nil, nil, row(0, 5))
}

// TestP23_1HurriedIdle holds that an Ack that tells nothing new hurries nothing that the one ahead of it didn't.
func TestP23_1HurriedIdle(t *testing.T) {
	s := with(t, 4, 4, 20, 20)
	s.Ack(0, nil)
	ticks(t, s, span(0, 4))
	s.Ack(0, nil)
	s.Ack(-1, [][2]int{{3, 3}, {4, 9}})
	ticks(t, s, nil)
	stands(t, s, 0, 4, false)
}
