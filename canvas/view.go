package canvas

import (
	"iter"

	"halftone/api"
)

// cut is how many lowest bits of a place are made 0.
type cut struct{ x, y int }

// View is an image in which nothing is left out for which something near is known.
func (c *Canvas) View(woven bool) api.Image {
	view := c.Image()
	steps := cuts(woven)
pixels:
	for i := range view.Pix {
		for x, y := range places(i%view.W, i/view.W, steps) {
			if colour, ok := c.At(x, y); ok {
				view.Pix[i] = colour
				continue pixels
			}
		}
	}
	return view
}

// places goes over where a pixel's colour is looked for.
func places(x, y int, steps []cut) iter.Seq2[int, int] {
	return func(yield func(x, y int) bool) {
		for _, s := range steps {
			if !yield(x>>s.x<<s.x, y>>s.y<<s.y) {
				return
			}
		}
	}
}

// cuts lead from a pixel itself back, pass by pass, to the one of the first pass that stands for it. GIF's passes have whole rows.
func cuts(woven bool) []cut {
	if woven {
		return []cut{{0, 0}, {0, 1}, {0, 2}, {0, 3}}
	}
	return []cut{{0, 0}, {1, 0}, {1, 1}, {2, 1}, {2, 2}, {3, 2}, {3, 3}}
}
