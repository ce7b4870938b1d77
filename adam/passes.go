package adam

import (
	"iter"

	"halftone/api"
)

// pngSteps is where each of PNG's passes begins, and how far its places are apart.
func pngSteps(laced bool) []api.Pass {
	if !laced {
		return everyRow()
	}
	return []api.Pass{
		{X: 0, Y: 0, DX: 8, DY: 8},
		{X: 4, Y: 0, DX: 8, DY: 8},
		{X: 0, Y: 4, DX: 4, DY: 8},
		{X: 2, Y: 0, DX: 4, DY: 4},
		{X: 0, Y: 2, DX: 2, DY: 4},
		{X: 1, Y: 0, DX: 2, DY: 2},
		{X: 0, Y: 1, DX: 1, DY: 2},
	}
}

// gifSteps is the same of GIF's passes, which have whole rows.
func gifSteps(laced bool) []api.Pass {
	if !laced {
		return everyRow()
	}
	return []api.Pass{
		{Y: 0, DX: 1, DY: 8},
		{Y: 4, DX: 1, DY: 8},
		{Y: 2, DX: 1, DY: 4},
		{Y: 1, DX: 1, DY: 2},
	}
}

// everyRow is the one pass of a picture that isn't laced.
func everyRow() []api.Pass { return []api.Pass{{DX: 1, DY: 1}} }

// passes goes over the passes that have such steps, with their numbers; over none, if there may be no such picture.
func passes(w, h int, steps []api.Pass) iter.Seq2[int, api.Pass] {
	return func(yield func(int, api.Pass) bool) {
		if !isPicture(w, h) {
			return
		}
		for i, p := range steps {
			if !yield(i+1, within(p, w, h)) {
				return
			}
		}
	}
}

// isPicture asks for the product last: of longer sides it might be more than a number holds.
func isPicture(w, h int) bool { return isSide(w) && isSide(h) && w*h <= api.MaxPixels }

func isSide(n int) bool { return n >= 1 && n <= api.MaxSide }

// within is a pass with as many places as a picture of w by h has of it.
func within(p api.Pass, w, h int) api.Pass {
	wide, high := places(p.X, p.DX, w), places(p.Y, p.DY, h)
	// Rows without a place are no rows, and places in no row are none.
	if wide > 0 && high > 0 {
		p.W, p.H = wide, high
	}
	return p
}

// places is how many of from, from + step, .. are below end.
func places(from, step, end int) int {
	if from >= end {
		return 0
	}
	return (end-from-1)/step + 1
}
