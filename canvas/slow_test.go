package canvas

import (
	"math/big"
	"slices"
	"testing"

	"halftone/api"
)

// slow is a canvas as the chapter's words have it: what is known, by its place.
type slow struct {
	w, h  int
	known map[api.Spot]api.Color
}

func newSlow(w, h int) slow { return slow{w, h, map[api.Spot]api.Color{}} }

func slowMay(w, h int) bool {
	if w < 1 || w > 2048 || h < 1 || h > 2048 {
		return false
	}
	return new(big.Int).Mul(big.NewInt(int64(w)), big.NewInt(int64(h))).Cmp(big.NewInt(65536)) <= 0
}

func (s slow) lay(l api.Line) api.Errno {
	if len(l.Cols) != len(l.Spots) {
		return api.ErrArg
	}
	times := map[api.Spot]int{}
	for _, p := range l.Spots {
		if p.X < 0 || p.Y < 0 || p.X >= s.w || p.Y >= s.h {
			return api.ErrArg
		}
		times[p]++
	}
	for p, n := range times {
		if _, ok := s.known[p]; ok || n > 1 {
			return api.ErrOrder
		}
	}
	for i, p := range l.Spots {
		s.known[p] = l.Cols[i]
	}
	return api.OK
}

// looked is where the colour of a pixel that isn't known is looked for.
func looked(p api.Spot, woven bool) []api.Spot {
	one := func(n int) int { return n - n%2 }
	two := func(n int) int { return n - n%4 }
	three := func(n int) int { return n - n%8 }
	x, y := p.X, p.Y
	if woven {
		return []api.Spot{{X: x, Y: one(y)}, {X: x, Y: two(y)}, {X: x, Y: three(y)}}
	}
	return []api.Spot{
		{X: one(x), Y: y},
		{X: one(x), Y: one(y)},
		{X: two(x), Y: one(y)},
		{X: two(x), Y: two(y)},
		{X: three(x), Y: two(y)},
		{X: three(x), Y: three(y)},
	}
}

func (s slow) seen(p api.Spot, woven bool) api.Color {
	if c, ok := s.known[p]; ok {
		return c
	}
	for _, q := range looked(p, woven) {
		if c, ok := s.known[q]; ok {
			return c
		}
	}
	return api.Color{}
}

// allSpots is all places of a picture, row by row.
func allSpots(w, h int) []api.Spot {
	var all []api.Spot
	for y := range h {
		for x := range w {
			all = append(all, api.Spot{X: x, Y: y})
		}
	}
	return all
}

// asSlow holds that a canvas answers to all calls as the words say.
func asSlow(t *testing.T, c *Canvas, s slow) {
	t.Helper()
	image, mask := api.Image{W: s.w, H: s.h}, []bool(nil)
	plain, woven := image, image
	for _, p := range allSpots(s.w, s.h) {
		colour, ok := s.known[p]
		if got, is := c.At(p.X, p.Y); got != colour || is != ok {
			t.Fatal("At", p, got, is)
		}
		image.Pix, mask = append(image.Pix, colour), append(mask, ok)
		plain.Pix, woven.Pix = append(plain.Pix, s.seen(p, false)), append(woven.Pix, s.seen(p, true))
	}
	if n := c.Count(); n != len(s.known) {
		t.Fatal("Count", n, len(s.known))
	}
	if full := c.Full(); full != (len(s.known) == s.w*s.h) {
		t.Fatal("Full", full, len(s.known))
	}
	if got := c.Mask(); !slices.Equal(got, mask) {
		t.Fatal("Mask", got, mask)
	}
	if got := c.Image(); !sameImage(got, image) {
		t.Fatal("Image", got, image)
	}
	if got := c.View(false); !sameImage(got, plain) {
		t.Fatal("View", s.known, got, plain)
	}
	if got := c.View(true); !sameImage(got, woven) {
		t.Fatal("View, woven", s.known, got, woven)
	}
}

func sameImage(a, b api.Image) bool { return a.W == b.W && a.H == b.H && slices.Equal(a.Pix, b.Pix) }

// made is a canvas that may be.
func made(t *testing.T, w, h int) *Canvas {
	t.Helper()
	c, e := New(w, h)
	if c == nil || e != api.OK {
		t.Fatal(w, h, c, e)
	}
	return c
}

// laid lays a line that may be laid.
func laid(t *testing.T, c *Canvas, l api.Line) {
	t.Helper()
	if e := c.Lay(l); e != api.OK {
		t.Fatal(l, e)
	}
}

// tone is a colour of its own for each place of a canvas, never zero.
func tone(p api.Spot) api.Color {
	return api.Color{R: uint16(p.X + 1), G: uint16(p.Y + 1), B: uint16(p.X ^ p.Y<<3), A: uint16(65535 - p.X)}
}

// lineOf is a line of spots with their tones.
func lineOf(spots ...api.Spot) api.Line {
	l := api.Line{Spots: spots}
	for _, p := range spots {
		l.Cols = append(l.Cols, tone(p))
	}
	return l
}
