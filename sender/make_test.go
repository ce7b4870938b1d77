package sender

import (
	"math/rand"
	"slices"
	"testing"

	"halftone/api"
)

// with is a sender of arguments that may be.
func with(t *testing.T, n, window, first, most int) *Sender {
	t.Helper()
	s, e := New(n, window, first, most)
	if e != api.OK || s == nil {
		t.Fatal("New", n, window, first, most, s, e)
	}
	return s
}

// ticks holds that rows of items are sent, one row by each Tick.
func ticks(t *testing.T, s *Sender, rows ...[]int) {
	t.Helper()
	for k, want := range rows {
		if got := s.Tick(); !slices.Equal(got, want) {
			t.Fatal("tick", k, "sends", got, "not", want)
		}
	}
}

// stands holds what the other calls answer.
func stands(t *testing.T, s *Sender, base, flight int, done bool) {
	t.Helper()
	if s.Base() != base || s.Flight() != flight || s.Done() != done {
		t.Fatal(s.Base(), s.Flight(), s.Done(), "not", base, flight, done)
	}
}

// row is the items of a Tick.
func row(items ...int) []int { return items }

// span is the items from a on and below b.
func span(a, b int) (list []int) {
	for i := a; i < b; i++ {
		list = append(list, i)
	}
	return list
}

// times is at which of so many Ticks an item is sent, the first one being 1.
func times(s *Sender, i, ticks int) (list []int) {
	for k := range ticks {
		if slices.Contains(s.Tick(), i) {
			list = append(list, k+1)
		}
	}
	return list
}

// drawn is a sender's arguments.
func drawn(rnd *rand.Rand) (n, window, first, most int) {
	n = rnd.Intn([]int{1, 4, 20, 200}[rnd.Intn(4)])
	window = 1 + rnd.Intn([]int{1, 4, 10, 64}[rnd.Intn(4)])
	most = 1 + rnd.Intn([]int{1, 5, 40}[rnd.Intn(3)])
	return n, window, 1 + rnd.Intn(most), most
}

// told is what an Ack takes: often what may be, at times anything.
func told(rnd *rand.Rand, base, window int) (int, [][2]int) {
	near := func() int { return base - 2 + rnd.Intn(window+5) }
	next := 0
	switch rnd.Intn(8) {
	case 0:
		next = near()
	case 1:
		next = base + rnd.Intn(3)
	case 2:
		next = -rnd.Intn(5)
	}
	var ranges [][2]int
	for range rnd.Intn(4) {
		a := near()
		ranges = append(ranges, [2]int{a, a - 1 + rnd.Intn(5)})
	}
	return next, ranges
}
