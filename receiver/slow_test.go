package receiver

import (
	"math/rand"
	"testing"
)

// slow knows of each item whether it has come, and its bytes, by the chapter's words.
type slow struct {
	window int
	came   []bool
	data   [][]byte
}

func newSlow(n, window int) *slow {
	return &slow{window: window, came: make([]bool, n), data: make([][]byte, n)}
}

func (s *slow) next() int {
	for i, c := range s.came {
		if !c {
			return i
		}
	}
	return len(s.came)
}

func (s *slow) take(i int, data []byte) ([][]byte, bool) {
	next := s.next()
	if i < next || i >= next+s.window || i >= len(s.came) || s.came[i] {
		return nil, false
	}
	s.came[i], s.data[i] = true, data
	return s.data[next:s.next()], true
}

func (s *slow) isHeld(i int) bool { return i < len(s.came) && s.came[i] && i > s.next() }

func (s *slow) held() (n int) {
	for i := range s.came {
		if s.isHeld(i) {
			n++
		}
	}
	return n
}

func (s *slow) ranges() (list [][2]int) {
	for i := range s.came {
		if !s.isHeld(i) || s.isHeld(i-1) {
			continue
		}
		end := i
		for s.isHeld(end) {
			end++
		}
		list = append(list, [2]int{i, end})
	}
	return list[:min(len(list), 4)]
}

// TestP24_1Slow holds drawn rows of calls against the chapter's words.
func TestP24_1Slow(t *testing.T) {
	rnd := rand.New(rand.NewSource(241))
	for range 2000 {
		n := rnd.Intn([]int{1, 4, 40, 90}[rnd.Intn(4)])
		window := 1 + rnd.Intn([]int{1, 4, 20, 64}[rnd.Intn(4)])
		r, w := with(t, n, window), newSlow(n, window)
		for range 100 {
			i := w.next() - 2 + rnd.Intn(window+5)
			if rnd.Intn(3) == 0 {
				i = w.next()
			}
			data := []byte{byte(rnd.Intn(256)), byte(i)}[:rnd.Intn(3)]
			got, ok := r.Take(i, data)
			if want, may := w.take(i, data); ok != may || !equal(got, want) {
				t.Fatal(n, window, "item", i, "tells", got, ok, "not", want, may)
			}
			stands(t, r, w.next(), w.held(), w.next() == n, w.ranges()...)
		}
	}
}
