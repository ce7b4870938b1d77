package sender

import (
	"math/rand"
	"slices"
	"testing"
)

// TestP23_2Sent holds over drawn rows of Ticks and Acks that nothing is sent that is acked, beyond the window, or twice by one Tick, and never more than the window.
func TestP23_2Sent(t *testing.T) {
	rnd := rand.New(rand.NewSource(232))
	for range 1000 {
		n, window, first, most := drawn(rnd)
		s := with(t, n, window, first, most)
		sent, acked := make([]bool, n), make([]bool, n)
		for range 120 {
			base := slices.Index(append(slices.Clone(acked), false), false)
			list := s.Tick()
			if len(list) > window || !slices.IsSorted(list) || len(slices.Compact(slices.Clone(list))) < len(list) {
				t.Fatal(window, list)
			}
			for _, i := range list {
				if i < base || i >= base+window || i >= n || acked[i] {
					t.Fatal(n, window, base, i, acked)
				}
				sent[i] = true
			}
			next, ranges := told(rnd, base, window)
			s.Ack(next, ranges)
			ackInto(acked, sent, next, ranges)
		}
	}
}

// ackInto acks what is told and was sent.
func ackInto(acked, sent []bool, next int, ranges [][2]int) {
	for _, r := range append([][2]int{{0, next}}, ranges...) {
		for i := max(r[0], 0); i < min(r[1], len(acked)); i++ {
			acked[i] = acked[i] || sent[i]
		}
	}
}

// TestP23_3Again holds over drawn rows that an item that isn't acked is sent again within most Ticks.
func TestP23_3Again(t *testing.T) {
	rnd := rand.New(rand.NewSource(233))
	for range 1000 {
		n, window, first, most := drawn(rnd)
		s := with(t, n, window, first, most)
		sent, acked, last := make([]bool, n), make([]bool, n), make([]int, n)
		for now := range 150 {
			for _, i := range s.Tick() {
				sent[i], last[i] = true, now
			}
			for i := range n {
				if sent[i] && !acked[i] && now-last[i] >= most {
					t.Fatal(n, window, first, most, "item", i, "was sent at", last[i], "and not again up to", now)
				}
			}
			if rnd.Intn(4) == 0 {
				next, ranges := told(rnd, s.Base(), window)
				s.Ack(next, ranges)
				ackInto(acked, sent, next, ranges)
			}
		}
	}
}

// TestP23_4Ends holds that all is done behind n / window Ticks, rounded up and not one sooner, when all that is sent is acked at once.
func TestP23_4Ends(t *testing.T) {
	for _, n := range []int{0, 1, 2, 5, 6, 7, 63, 64, 65, 128, 129, 1000, greatestN} {
		for _, window := range []int{1, 2, 6, 63, 64} {
			if n == greatestN && window < 63 {
				continue
			}
			s := with(t, n, window, 2, 4)
			for range (n + window - 1) / window {
				if s.Done() {
					t.Fatal(n, window, "done too soon")
				}
				ackAll(s, s.Tick())
			}
			stands(t, s, n, 0, true)
		}
	}
}

// ackAll acks items one by one.
func ackAll(s *Sender, items []int) {
	var ranges [][2]int
	for _, i := range items {
		ranges = append(ranges, [2]int{i, i + 1})
	}
	s.Ack(0, ranges)
}

// TestP23_4Lossy holds that all is done in the end where each sending is lost as often as not, and as often as not told in another order.
func TestP23_4Lossy(t *testing.T) {
	rnd := rand.New(rand.NewSource(234))
	for range 200 {
		n, window, first, most := drawn(rnd)
		s := with(t, n, window, first, most)
		for k := 0; !s.Done(); k++ {
			if k > 100*(n+1)*most {
				t.Fatal(n, window, first, most, "isn't done")
			}
			list := s.Tick()
			rnd.Shuffle(len(list), func(a, b int) { list[a], list[b] = list[b], list[a] })
			ackAll(s, list[:len(list)/2+rnd.Intn(len(list)-len(list)/2+1)])
		}
		stands(t, s, n, 0, true)
	}
}
