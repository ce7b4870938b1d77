package canvas

import (
	"slices"
	"testing"

	"halftone/adam"
	"halftone/api"
)

// One pixel is known, at each place: wherever it is looked for it is shown, and nowhere else.
func TestP19_1ViewOfOne(t *testing.T) {
	for _, side := range [][2]int{{1, 1}, {2, 1}, {1, 2}, {8, 8}, {9, 7}, {7, 9}, {13, 11}, {17, 3}, {3, 17}, {18, 18}} {
		for _, p := range allSpots(side[0], side[1]) {
			c, s := made(t, side[0], side[1]), newSlow(side[0], side[1])
			laid(t, c, lineOf(p))
			s.lay(lineOf(p))
			asSlow(t, c, s)
		}
	}
}

// All pixels are known but one, at each place.
func TestP19_1ViewWithoutOne(t *testing.T) {
	for _, side := range [][2]int{{2, 1}, {1, 2}, {9, 7}, {7, 9}, {17, 3}} {
		all := allSpots(side[0], side[1])
		for i := range all {
			c, s := made(t, side[0], side[1]), newSlow(side[0], side[1])
			l := lineOf(slices.Delete(slices.Clone(all), i, i+1)...)
			laid(t, c, l)
			s.lay(l)
			asSlow(t, c, s)
		}
	}
}

// few is those of the places at which a pixel is looked for that the bits of n name, without the pixel's own, each once.
func few(p api.Spot, places []api.Spot, n int) []api.Spot {
	var some []api.Spot
	for i, q := range places {
		if n>>i&1 == 1 && q != p && !slices.Contains(some, q) {
			some = append(some, q)
		}
	}
	return some
}

// Of each pixel any of the places at which it is looked for are known: the first known one counts.
func TestP19_1ViewFirstCounts(t *testing.T) {
	const w, h = 18, 19
	for _, woven := range []bool{false, true} {
		for _, p := range allSpots(w, h) {
			places := looked(p, woven)
			for n := range 1 << len(places) {
				some := few(p, places, n)
				c := made(t, w, h)
				// The order in which they became known is of no weight.
				backwards := slices.Clone(some)
				slices.Reverse(backwards)
				laid(t, c, lineOf(backwards...))
				want := api.Color{}
				if len(some) > 0 {
					want = tone(some[0])
				}
				if got := c.View(woven).Pix[p.Y*w+p.X]; got != want {
					t.Fatal(woven, p, some, got, want)
				}
			}
		}
	}
}

// The places, written out for one pixel all of whose lowest bits are 1.
func TestP19_1ViewPlacesNamed(t *testing.T) {
	for _, row := range []struct {
		woven bool
		order []api.Spot
	}{
		{false, []api.Spot{{X: 14, Y: 7}, {X: 14, Y: 6}, {X: 12, Y: 6}, {X: 12, Y: 4}, {X: 8, Y: 4}, {X: 8, Y: 0}}},
		{true, []api.Spot{{X: 15, Y: 6}, {X: 15, Y: 4}, {X: 15, Y: 0}}},
	} {
		c := made(t, 16, 8)
		// From the last one on each that becomes known is shown; what is beside them isn't.
		for i := len(row.order) - 1; i >= 0; i-- {
			laid(t, c, lineOf(row.order[i]))
			if got := c.View(row.woven).Pix[7*16+15]; got != tone(row.order[i]) {
				t.Error(row.woven, row.order[i], got)
			}
		}
		rest := made(t, 16, 8)
		var beside []api.Spot
		for _, p := range allSpots(16, 8) {
			if p != spot(15, 7) && !slices.Contains(row.order, p) {
				beside = append(beside, p)
			}
		}
		laid(t, rest, lineOf(beside...))
		if got := rest.View(row.woven).Pix[7*16+15]; got != (api.Color{}) {
			t.Error(row.woven, got)
		}
	}
}

// Once a laced picture's first pass is there nothing is left out, and each pixel has the colour of the one that stands for it.
func TestP19_1ViewOfPasses(t *testing.T) {
	for w := 1; w <= 18; w++ {
		for h := 1; h <= 18; h++ {
			for _, woven := range []bool{false, true} {
				seq := adam.Lines(w, h, true)
				if woven {
					seq = adam.Woven(w, h, true)
				}
				c := made(t, w, h)
				last := 1
				for pass, spots := range seq {
					if pass != last && slices.Contains(c.View(woven).Pix, api.Color{}) {
						t.Fatal(w, h, woven, "left out behind pass", last)
					}
					if last == 1 && pass != 1 {
						ofFirst(t, c, woven)
					}
					last = pass
					laid(t, c, lineOf(spots...))
				}
			}
		}
	}
}

// ofFirst holds that a view shows the first pass's pixels, each in eight by eight places, or in eight rows.
func ofFirst(t *testing.T, c *Canvas, woven bool) {
	t.Helper()
	v := c.View(woven)
	for _, p := range allSpots(v.W, v.H) {
		want := spot(p.X/8*8, p.Y/8*8)
		if woven {
			want.X = p.X
		}
		if got := v.Pix[p.Y*v.W+p.X]; got != tone(want) {
			t.Fatal(v.W, v.H, woven, p, got)
		}
	}
}

// The document's example: of a laced PNG of 8 by 8 the first line is one pixel, and all are of its colour.
func TestP19_1ViewOfFirstLine(t *testing.T) {
	c := made(t, 8, 8)
	laid(t, c, lineOf(spot(0, 0)))
	if v := c.View(false); v.W != 8 || v.H != 8 || !slices.Equal(v.Pix, slices.Repeat([]api.Color{tone(spot(0, 0))}, 64)) {
		t.Error(v)
	}
}

// A view changes nothing: what it shows isn't known by that.
func TestP19_2ViewChangesNothing(t *testing.T) {
	c, s := half(t)
	for range 2 {
		c.View(false)
		c.View(true)
		c.Image()
		c.Mask()
		asSlow(t, c, s)
	}
	laid(t, c, lineOf(spot(0, 0), spot(0, 2)))
}

// What is gone over may be left at each place: whoever looks for a pixel stops at the first known one.
func TestP19_1PlacesLeft(t *testing.T) {
	for _, woven := range []bool{false, true} {
		p := spot(15, 7)
		want := append([]api.Spot{p}, looked(p, woven)...)
		for n := 1; n <= len(want); n++ {
			var got []api.Spot
			for x, y := range places(p.X, p.Y, cuts(woven)) {
				got = append(got, spot(x, y))
				if len(got) == n {
					break
				}
			}
			if !slices.Equal(got, want[:n]) {
				t.Error(woven, n, got)
			}
		}
	}
}
