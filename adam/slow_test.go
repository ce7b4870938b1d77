package adam

import (
	"iter"
	"math/big"
	"slices"

	"halftone/api"
)

// line is a line as it is told.
type line struct {
	pass  int
	spots []api.Spot
}

// order is one of the calls that go over lines.
type order struct {
	name string
	call func(w, h int, laced bool) iter.Seq2[int, []api.Spot]
	slow func(x, y int) int // which pass a place of a laced picture stands in
	most int
}

func orders() []order {
	return []order{{"Lines", Lines, slowPNG, 7}, {"Woven", Woven, slowGIF, 4}}
}

// slowPNG is the pass of a place as the eight by eight places say it that come again and again.
func slowPNG(x, y int) int {
	return int([8]string{
		"16462646",
		"77777777",
		"56565656",
		"77777777",
		"36463646",
		"77777777",
		"56565656",
		"77777777",
	}[y%8][x%8] - '0')
}

func slowGIF(_, y int) int { return int("14342434"[y%8] - '0') }

func slowPicture(w, h int) bool {
	if w < 1 || w > 2048 || h < 1 || h > 2048 {
		return false
	}
	return new(big.Int).Mul(big.NewInt(int64(w)), big.NewInt(int64(h))).Cmp(big.NewInt(65536)) <= 0
}

// slowLines asks of each pass, and of each place, whether it stands in it.
func (o order) slowLines(w, h int, laced bool) []line {
	if !slowPicture(w, h) {
		return nil
	}
	pass, most := o.slow, o.most
	if !laced {
		pass, most = func(int, int) int { return 1 }, 1
	}
	var all []line
	for n := 1; n <= most; n++ {
		for y := range h {
			l := line{pass: n}
			for x := range w {
				if pass(x, y) == n {
					l.spots = append(l.spots, api.Spot{X: x, Y: y})
				}
			}
			if len(l.spots) > 0 {
				all = append(all, l)
			}
		}
	}
	return all
}

// slowBytes counts the bits of each line one by one.
func slowBytes(h api.Head, samples int) int {
	if samples < 1 || samples > 4 || h.Depth < 1 || h.Depth > 16 {
		return 0
	}
	n := 0
	for _, l := range orders()[0].slowLines(h.W, h.H, h.Laced) {
		n++
		left := 0
		for range l.spots {
			for range samples {
				for range h.Depth {
					if left == 0 {
						n, left = n+1, 8
					}
					left--
				}
			}
		}
	}
	return n
}

// told is all that is told, kept as it was then.
func told(seq iter.Seq2[int, []api.Spot]) []line {
	var all []line
	for pass, spots := range seq {
		all = append(all, line{pass, slices.Clone(spots)})
	}
	return all
}

func same(a, b []line) bool {
	return slices.EqualFunc(a, b, func(x, y line) bool { return x.pass == y.pass && slices.Equal(x.spots, y.spots) })
}
