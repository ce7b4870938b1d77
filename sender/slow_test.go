package sender

import (
	"math/rand"
	"slices"
	"testing"
)

// slowItem is an item, by the chapter's words.
type slowItem struct {
	sent, acked, hurried bool
	gap, due             int
}

// slow has all items, the chapter's words one by one.
type slow struct {
	window, first, most, time int
	items                     []slowItem
}

func newSlow(n, window, first, most int) *slow {
	return &slow{window: window, first: first, most: most, items: make([]slowItem, n)}
}

func (s *slow) base() int {
	for i, it := range s.items {
		if !it.acked {
			return i
		}
	}
	return len(s.items)
}

func (s *slow) inWindow(i int) bool {
	return i >= s.base() && i < s.base()+s.window && i < len(s.items)
}

func (s *slow) tick() (list []int) {
	s.time++
	for i := range s.items {
		it := &s.items[i]
		if !s.inWindow(i) || it.acked {
			continue
		}
		if !it.sent {
			it.sent, it.gap, it.due = true, s.first, s.time+s.first
			list = append(list, i)
		} else if it.due <= s.time {
			it.gap = 2 * it.gap
			if it.gap > s.most {
				it.gap = s.most
			}
			it.due = s.time + it.gap
			list = append(list, i)
		}
	}
	return list
}

func (s *slow) ack(next int, ranges [][2]int) {
	for i := range s.items {
		told := i < next
		for _, r := range ranges {
			told = told || r[0] <= i && i < r[1]
		}
		if told && s.items[i].sent {
			s.items[i].acked = true
		}
	}
	for i := range s.items {
		above := 0
		for k := i + 1; k < len(s.items); k++ {
			if s.inWindow(k) && s.items[k].acked {
				above++
			}
		}
		it := &s.items[i]
		if s.inWindow(i) && it.sent && !it.acked && above >= 3 && !it.hurried {
			it.hurried, it.due = true, s.time
		}
	}
}

func (s *slow) flight() (n int) {
	for _, it := range s.items {
		if it.sent && !it.acked {
			n++
		}
	}
	return n
}

func (s *slow) done() bool { return s.base() == len(s.items) }

// TestP23_1Slow holds drawn rows of calls against the chapter's words.
func TestP23_1Slow(t *testing.T) {
	rnd := rand.New(rand.NewSource(231))
	for range 3000 {
		n, window, first, most := drawn(rnd)
		if n > 60 {
			n = 60
		}
		s, w := with(t, n, window, first, most), newSlow(n, window, first, most)
		for step := range 60 {
			if rnd.Intn(3) > 0 {
				if got, want := s.Tick(), w.tick(); !slices.Equal(got, want) {
					t.Fatal(n, window, first, most, "step", step, "sends", got, "not", want)
				}
			} else {
				next, ranges := told(rnd, s.Base(), window)
				s.Ack(next, ranges)
				w.ack(next, ranges)
			}
			stands(t, s, w.base(), w.flight(), w.done())
		}
	}
}
