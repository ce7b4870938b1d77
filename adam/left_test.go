package adam

import (
	"iter"
	"slices"
	"testing"

	"halftone/api"
)

// once holds that each place of a picture stands in just one line, once, that no line is without a place, and that passes and rows come in their order.
func once(t *testing.T, o order, w, h int, laced bool) {
	t.Helper()
	seen := make([]int, w*h)
	lastPass, lastY := 1, -1
	for pass, spots := range o.call(w, h, laced) {
		if len(spots) == 0 {
			t.Fatal(o.name, w, h, laced, "a line without a place", pass)
		}
		y := spots[0].Y
		if pass < lastPass || pass == lastPass && y <= lastY || pass > o.most || !laced && pass != 1 {
			t.Fatal(o.name, w, h, laced, "out of order", pass, y)
		}
		lastPass, lastY = pass, y
		for i, s := range spots {
			if s.Y != y || s.X < 0 || s.X >= w || s.Y < 0 || s.Y >= h || i > 0 && s.X <= spots[i-1].X {
				t.Fatal(o.name, w, h, laced, "no place of the row", spots)
			}
			seen[s.Y*w+s.X]++
		}
	}
	for i, n := range seen {
		if n != 1 {
			t.Fatal(o.name, w, h, laced, i, n)
		}
	}
}

func TestP14_2EachPlaceOnce(t *testing.T) {
	for _, o := range orders() {
		for _, laced := range []bool{false, true} {
			for w := 1; w <= 18; w++ {
				for h := 1; h <= 18; h++ {
					once(t, o, w, h, laced)
				}
			}
			for _, side := range [][2]int{{2048, 1}, {1, 2048}, {2048, 32}, {32, 2048}, {256, 256}, {255, 257}, {2047, 31}} {
				once(t, o, side[0], side[1], laced)
			}
		}
	}
}

// firstFew leaves behind n lines.
func firstFew(seq iter.Seq2[int, []api.Spot], n int) []line {
	var all []line
	if n == 0 {
		return nil
	}
	for pass, spots := range seq {
		all = append(all, line{pass, spots})
		if len(all) == n {
			break
		}
	}
	return all
}

// What is gone over is left at each place, and begun anew.
func TestP14_3Left(t *testing.T) {
	for _, o := range orders() {
		for _, laced := range []bool{false, true} {
			for _, side := range [][2]int{{1, 1}, {3, 2}, {8, 8}, {9, 9}, {5, 17}, {17, 5}} {
				want := o.slowLines(side[0], side[1], laced)
				seq := o.call(side[0], side[1], laced)
				for n := range len(want) + 1 {
					if got := firstFew(seq, n); !same(got, want[:n]) {
						t.Fatal(o.name, side, laced, n, got)
					}
					if got := told(seq); !same(got, want) {
						t.Fatal(o.name, side, laced, n, "begun anew", got)
					}
				}
			}
		}
	}
}

// Once it is left, nothing more is told, however it is called.
func TestP14_3NothingBehindALeave(t *testing.T) {
	for _, o := range orders() {
		for _, laced := range []bool{false, true} {
			all := len(o.slowLines(9, 9, laced))
			for n := 1; n <= all; n++ {
				calls := 0
				o.call(9, 9, laced)(func(int, []api.Spot) bool {
					calls++
					return calls < n
				})
				if calls != n {
					t.Fatal(o.name, laced, n, calls)
				}
			}
		}
	}
}

// It is left from within by a label, by a return, and by a panic, which comes through.
func TestP14_3LeftFromWithin(t *testing.T) {
	for _, o := range orders() {
		seq := o.call(9, 9, true)
		want := o.slowLines(9, 9, true)
		var at api.Spot
	search:
		for {
			for _, spots := range seq {
				for _, s := range spots {
					if s.Y == 4 {
						at = s
						break search
					}
				}
			}
		}
		if at != (api.Spot{Y: 4}) {
			t.Error(o.name, at)
		}
		func() {
			defer func() {
				if recover() != "out" {
					t.Error(o.name, "no panic")
				}
			}()
			for pass := range seq {
				if pass == 3 {
					panic("out")
				}
			}
		}()
		if got := told(seq); !same(got, want) {
			t.Error(o.name, got)
		}
	}
}

// Two are gone over side by side, whether made by one call or by two.
func TestP14_3SideBySide(t *testing.T) {
	for _, o := range orders() {
		one, other := o.call(9, 9, true), o.call(9, 9, true)
		want := o.slowLines(9, 9, true)
		for _, pair := range [][2]iter.Seq2[int, []api.Spot]{{one, one}, {one, other}} {
			var outer []line
			for pass, spots := range pair[0] {
				outer = append(outer, line{pass, spots})
				if got := told(pair[1]); !same(got, want) {
					t.Fatal(o.name, got)
				}
				if got := firstFew(pair[1], len(outer)); !same(got, want[:len(outer)]) {
					t.Fatal(o.name, got)
				}
			}
			if !same(outer, want) {
				t.Fatal(o.name, outer)
			}
		}
	}
}

// In turn, each with a picture of its own, until both are done.
func TestP14_3InTurn(t *testing.T) {
	next, stop := iter.Pull2(Lines(9, 7, true))
	defer stop()
	nextWoven, stopWoven := iter.Pull2(Woven(4, 20, true))
	defer stopWoven()
	var got, woven []line
	for more := true; more; {
		more = false
		if pass, spots, ok := next(); ok {
			got, more = append(got, line{pass, spots}), true
		}
		if pass, spots, ok := nextWoven(); ok {
			woven, more = append(woven, line{pass, spots}), true
		}
	}
	if !same(got, orders()[0].slowLines(9, 7, true)) || !same(woven, orders()[1].slowLines(4, 20, true)) {
		t.Error(got, woven)
	}
}

// What was told is new memory: it stays as it was, and may be written over.
func TestP14_3WrittenOver(t *testing.T) {
	for _, o := range orders() {
		for _, laced := range []bool{false, true} {
			seq := o.call(9, 9, laced)
			want := o.slowLines(9, 9, laced)
			if kept := firstFew(seq, len(want)); !same(kept, want) {
				t.Fatal(o.name, "kept", kept)
			}
			for range 2 {
				var got []line
				for pass, spots := range seq {
					got = append(got, line{pass, slices.Clone(spots)})
					// Behind its end, and all that was told.
					spots = append(spots, api.Spot{X: -7, Y: -7})
					for i := range spots {
						spots[i] = api.Spot{X: -9, Y: -9}
					}
				}
				if !same(got, want) {
					t.Fatal(o.name, laced, got)
				}
			}
		}
	}
}

// No picture, no lines: but there is something to go over.
func TestP14_1NoLines(t *testing.T) {
	for _, o := range orders() {
		for _, side := range [][2]int{{0, 0}, {0, 1}, {1, 0}, {-1, 1}, {1, -1}, {-1, -1}, {2049, 1}, {1, 2049}, {257, 256}, {2048, 2048}, {1 << 32, 1 << 32}} {
			for _, laced := range []bool{false, true} {
				seq := o.call(side[0], side[1], laced)
				if seq == nil || len(told(seq)) != 0 || len(told(seq)) != 0 {
					t.Error(o.name, side, laced)
				}
			}
		}
	}
}
