package sender

import (
	"slices"
	"testing"
)

// TestP23_1Gaps holds at which times an item is sent that nobody acks: its gap grows from first to most, and stays there.
func TestP23_1Gaps(t *testing.T) {
	for _, c := range []struct {
		first, most int
		want        []int
	}{
		{1, 1, []int{1, 2, 3, 4, 5, 6}},
		{1, 2, []int{1, 2, 4, 6, 8, 10}},
		{1, 3, []int{1, 2, 4, 7, 10, 13}},
		{1, 4, []int{1, 2, 4, 8, 12, 16}},
		{1, 5, []int{1, 2, 4, 8, 13, 18}},
		{2, 2, []int{1, 3, 5, 7, 9, 11}},
		{2, 3, []int{1, 3, 6, 9, 12, 15}},
		{2, 9, []int{1, 3, 7, 15, 24, 33}},
		{3, 100, []int{1, 4, 10, 22, 46, 94, 190, 290, 390}},
		{7, 7, []int{1, 8, 15, 22, 29}},
		{5, 9, []int{1, 6, 15, 24, 33}},
	} {
		s := with(t, 2, 3, c.first, c.most)
		if got := times(s, 1, c.want[len(c.want)-1]); !slices.Equal(got, c.want) {
			t.Error(c.first, c.most, "at", got, "not", c.want)
		}
	}
}

// TestP23_1Greatest holds the gaps of the greatest bound.
func TestP23_1Greatest(t *testing.T) {
	s := with(t, 1, 1, greatestGap, greatestGap)
	want := row(1, 1+greatestGap, 1+2*greatestGap)
	if got := times(s, 0, 2*greatestGap+2); !slices.Equal(got, want) {
		t.Error(got)
	}
	s = with(t, 1, 1, greatestGap-1, greatestGap)
	want = row(1, greatestGap, 2*greatestGap)
	if got := times(s, 0, 2*greatestGap+1); !slices.Equal(got, want) {
		t.Error(got)
	}
}

// TestP23_1Own holds that each item has its gap and is due for itself: those that come into the window later begin with first.
func TestP23_1Own(t *testing.T) {
	s := with(t, 6, 3, 2, 8)
	ticks(t, s, row(0, 1, 2), nil, row(0, 1, 2), nil) // due at 7, gap 4
	s.Ack(2, nil)
	ticks(t, s, row(3, 4), nil, row(2, 3, 4), nil) // 3 and 4 due at 11, gap 4; 2 at 15, gap 8
	stands(t, s, 2, 3, false)
	s.Ack(3, nil)
	ticks(t, s, row(5), nil, row(3, 4, 5), nil, nil, nil, row(5))
	stands(t, s, 3, 3, false)
}

// TestP23_1Late holds that time goes on where nothing is sent: an item's gap begins when it is sent.
func TestP23_1Late(t *testing.T) {
	s := with(t, 2, 1, 3, 3)
	ticks(t, s, row(0), nil)
	s.Ack(1, nil)
	ticks(t, s, row(1), nil, nil, row(1), nil)
	s.Ack(2, nil)
	ticks(t, s, nil, nil)
	stands(t, s, 2, 0, true)
}
