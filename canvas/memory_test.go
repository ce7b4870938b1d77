package canvas

import (
	"slices"
	"testing"

	"halftone/api"
)

// roomy is a line whose lists have spare room, filled with what must stay there.
func roomy(l api.Line) api.Line {
	spots := append(slices.Clone(l.Spots), spot(-77, -78), spot(3, 3))
	cols := append(slices.Clone(l.Cols), api.Color{R: 77}, api.Color{G: 78})
	return api.Line{Pass: 5, Spots: spots[:len(l.Spots)], Cols: cols[:len(l.Cols)]}
}

// whole is a copy of a line with its spare room.
func whole(l api.Line) api.Line {
	return api.Line{Pass: l.Pass, Spots: slices.Clone(l.Spots[:cap(l.Spots)]), Cols: slices.Clone(l.Cols[:cap(l.Cols)])}
}

func sameLine(a, b api.Line) bool {
	return a.Pass == b.Pass && slices.Equal(a.Spots, b.Spots) && slices.Equal(a.Cols, b.Cols)
}

// What is handed in stays as it was, laid or refused, its spare room too.
func TestP19_2HandedInStays(t *testing.T) {
	for _, l := range []api.Line{
		lineOf(), lineOf(spot(0, 0)), lineOf(spot(4, 3), spot(0, 0), spot(2, 2)), // these are laid
		lineOf(spot(0, 0), spot(5, 0)), lineOf(spot(0, 0), spot(2, 1)), lineOf(spot(0, 0), spot(0, 0)), cols(lineOf(spot(0, 0)), 2), cols(lineOf(spot(0, 0)), 0),
	} {
		c, s := half(t)
		l = roomy(l)
		was := whole(l)
		if c.Lay(l) != s.lay(l) {
			t.Fatal(l)
		}
		c.View(false)
		c.View(true)
		if !sameLine(whole(l), was) {
			t.Error(was, whole(l))
		}
		asSlow(t, c, s)
	}
}

// The line may be written over once Lay has answered.
func TestP19_2LineWrittenOver(t *testing.T) {
	c, s := half(t)
	for _, l := range []api.Line{lineOf(spot(0, 0), spot(1, 0)), lineOf(spot(2, 0), spot(2, 1)), lineOf(spot(4, 3))} {
		l = roomy(l)
		if c.Lay(l) != s.lay(l) {
			t.Fatal(l)
		}
		for i := range l.Spots[:cap(l.Spots)] {
			l.Spots[:cap(l.Spots)][i] = spot(3, 2)
		}
		for i := range l.Cols[:cap(l.Cols)] {
			l.Cols[:cap(l.Cols)][i] = api.Color{R: 1, G: 2, B: 3, A: 4}
		}
		asSlow(t, c, s)
	}
}

// smear writes over an answer, and over its spare room.
func smear[T any](l []T, v T) {
	l = l[:cap(l)]
	for i := range l {
		l[i] = v
	}
}

// What was told may be written over: neither the canvas nor any other answer has a share in it.
func TestP19_2AnswersWrittenOver(t *testing.T) {
	blot := api.Color{R: 9, G: 9, B: 9, A: 9}
	full := made(t, 5, 4)
	all := newSlow(5, 4)
	laid(t, full, lineOf(allSpots(5, 4)...))
	all.lay(lineOf(allSpots(5, 4)...))
	c, s := half(t)
	for _, one := range []struct {
		c *Canvas
		s slow
	}{{c, s}, {made(t, 5, 4), newSlow(5, 4)}, {full, all}} {
		images := []api.Image{one.c.Image(), one.c.Image(), one.c.View(false), one.c.View(false), one.c.View(true), one.c.View(true)}
		masks := [][]bool{one.c.Mask(), one.c.Mask()}
		for i, m := range images {
			kept := make([][]api.Color, len(images))
			for j := range images {
				kept[j] = slices.Clone(images[j].Pix)
			}
			smear(m.Pix, blot)
			for j := range images {
				if j != i && !slices.Equal(images[j].Pix, kept[j]) {
					t.Fatal("image", i, "is image", j)
				}
			}
			asSlow(t, one.c, one.s)
		}
		for i, m := range masks {
			kept := slices.Clone(masks[1-i])
			smear(m, i == 0)
			if !slices.Equal(masks[1-i], kept) {
				t.Fatal("the masks are one")
			}
			asSlow(t, one.c, one.s)
		}
	}
}

// What was told stays as it was, whatever is laid later.
func TestP19_2AnswersStay(t *testing.T) {
	c, _ := half(t)
	image, plain, woven, mask := c.Image(), c.View(false), c.View(true), c.Mask()
	kept := [][]api.Color{slices.Clone(image.Pix), slices.Clone(plain.Pix), slices.Clone(woven.Pix)}
	keptMask := slices.Clone(mask)
	laid(t, c, lineOf(append(allSpots(5, 4)[:5], allSpots(5, 4)[10:]...)...))
	if !slices.Equal(image.Pix, kept[0]) || !slices.Equal(plain.Pix, kept[1]) || !slices.Equal(woven.Pix, kept[2]) || !slices.Equal(mask, keptMask) {
		t.Error(image, plain, woven, mask)
	}
}

// Canvases don't depend on one another.
func TestP19_2SideBySide(t *testing.T) {
	one, other := made(t, 5, 4), made(t, 5, 4)
	a, b := newSlow(5, 4), newSlow(5, 4)
	for i, p := range allSpots(5, 4) {
		c, s := one, a
		if i%3 == 0 {
			c, s = other, b
		}
		laid(t, c, lineOf(p))
		s.lay(lineOf(p))
		asSlow(t, one, a)
		asSlow(t, other, b)
	}
}
