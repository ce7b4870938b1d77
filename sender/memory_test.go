package sender

import (
	"slices"
	"sync"
	"testing"
)

// TestP23_1HandedIn holds that what is handed to Ack stays as it was, its spare room too, and isn't kept.
func TestP23_1HandedIn(t *testing.T) {
	room := [][2]int{{6, 8}, {2, 3}, {5, 4}, {77, 78}, {88, 89}}
	before := slices.Clone(room)
	s, twin := with(t, 20, 10, 3, 9), with(t, 20, 10, 3, 9)
	ticks(t, s, span(0, 10))
	ticks(t, twin, span(0, 10))
	s.Ack(1, room[:3])
	twin.Ack(1, slices.Clone(before[:3]))
	if !slices.Equal(room, before) {
		t.Fatal(room)
	}
	for k := range room {
		room[k] = [2]int{0, 20}
	}
	for range 30 {
		if a, b := s.Tick(), twin.Tick(); !slices.Equal(a, b) {
			t.Fatal(a, b)
		}
		stands(t, s, twin.Base(), twin.Flight(), twin.Done())
	}
}

// TestP23_1Answers holds that a Tick's answer is its own: it may be written over, and no later Tick changes it.
func TestP23_1Answers(t *testing.T) {
	s := with(t, 20, 10, 1, 1)
	a := s.Tick()
	b := s.Tick()
	smear(a)
	if !slices.Equal(b, span(0, 10)) {
		t.Fatal(b)
	}
	smear(b)
	s.Ack(4, nil)
	ticks(t, s, span(4, 14))
	for _, v := range slices.Concat(a[:cap(a)], b[:cap(b)]) {
		if v != -7 {
			t.Fatal(a, b)
		}
	}
}

// smear writes over a list and its spare room.
func smear(list []int) {
	for k := range list[:cap(list)] {
		list[:cap(list)][k] = -7
	}
}

// TestP23_1Apart holds that senders don't depend on one another, side by side too.
func TestP23_1Apart(t *testing.T) {
	var all sync.WaitGroup
	for k := range 8 {
		all.Go(func() {
			s, w := must(50, 1+k, 1, 1+k), newSlow(50, 1+k, 1, 1+k)
			for step := range 200 {
				if got, want := s.Tick(), w.tick(); !slices.Equal(got, want) {
					t.Error(k, step, got, want)
				}
				ranges := [][2]int{{step % 60, step%60 + k}}
				s.Ack(step/8, ranges)
				w.ack(step/8, ranges)
			}
		})
	}
	all.Wait()
}

// must is a sender of arguments that may be.
func must(n, window, first, most int) *Sender {
	s, e := New(n, window, first, most)
	if e != 0 {
		panic(e)
	}
	return s
}
