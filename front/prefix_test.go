package front

import (
	"math/rand"
	"slices"
	"testing"

	"halftone/api"
	"halftone/canvas"
)

// shown is a front, and a canvas on which its lines are laid as soon as the head is there.
type shown struct {
	front  *Front
	canvas *canvas.Canvas
	lines  []api.Line
}

// push goes on with more bytes; no line may be refused.
func (s *shown) push(t *testing.T, b []byte) {
	t.Helper()
	l, e := s.front.Push(b)
	if e != api.OK {
		t.Fatal(e)
	}
	s.lines = append(s.lines, l...)
	if h, known := s.front.Head(); known && s.canvas == nil {
		s.canvas = must(canvas.New(h.W, h.H))
	}
	for _, one := range l {
		if e := s.canvas.Lay(one); e != api.OK {
			t.Fatal("a line is refused:", e, one)
		}
	}
}

// isTrue holds what is there against the whole: a beginning of all lines, and no pixel but the image's.
func (s *shown) isTrue(t *testing.T, all []api.Line, m api.Image) {
	t.Helper()
	if s.front.Told() != len(s.lines) || len(s.lines) > len(all) || !sameLines(s.lines, all[:len(s.lines)]) {
		t.Fatal("no beginning:", brief(s.lines))
	}
	if s.canvas == nil {
		if len(s.lines) > 0 {
			t.Fatal("lines without a head")
		}
		return
	}
	n := 0
	for _, l := range s.lines {
		n += len(l.Spots)
	}
	got, mask := s.canvas.Image(), s.canvas.Mask()
	if got.W != m.W || got.H != m.H || s.canvas.Count() != n {
		t.Fatal(got.W, got.H, s.canvas.Count(), n)
	}
	for i, known := range mask {
		if known && got.Pix[i] != m.Pix[i] {
			t.Fatal(i, got.Pix[i], "not", m.Pix[i])
		}
	}
	if s.canvas.Full() != (len(s.lines) == len(all)) {
		t.Fatal(s.canvas.Full(), len(s.lines), len(all))
	}
}

// grow shows a file piece by piece.
func grow(t *testing.T, p picture, pieces [][]byte) {
	t.Helper()
	all, m := p.lines(), p.image()
	s := &shown{front: New()}
	for _, b := range pieces {
		s.push(t, b)
		s.isTrue(t, all, m)
	}
	if !s.front.Done() || !s.canvas.Full() || !sameImage(s.canvas.Image(), m) || !sameImage(s.canvas.View(s.front.Woven()), m) || len(s.lines) != len(all) {
		t.Fatal(p.raster.Head, s.front.Done(), s.canvas.Full())
	}
	if c, e := Check(p.file); e != api.OK || !sameImage(c, s.canvas.Image()) {
		t.Fatal(p.raster.Head, e)
	}
}

// Each beginning, by itself: its lines are a beginning of all lines, and on a canvas they are the image's.
func TestP20_2EachBeginning(t *testing.T) {
	rnd := rand.New(rand.NewSource(231))
	for i := range 60 {
		p := some(rnd, i, 1+rnd.Intn(9), 1+rnd.Intn(9))
		all, m := p.lines(), p.image()
		for n := range len(p.file) + 1 {
			s := &shown{front: New()}
			s.push(t, p.file[:n])
			s.isTrue(t, all, m)
		}
	}
}

// Beginnings of beginnings: of more bytes no fewer lines are told.
func TestP20_2Grows(t *testing.T) {
	rnd := rand.New(rand.NewSource(232))
	for i := range 120 {
		p := some(rnd, i, 1+rnd.Intn(20), 1+rnd.Intn(20))
		grow(t, p, slices.Collect(slices.Chunk(p.file, 1)))
	}
}

// Every kind of colours and size of a table, laced and not, of sides up to more than a pass is wide.
func TestP20_3EveryKind(t *testing.T) {
	rnd := rand.New(rand.NewSource(233))
	for i := range len(kinds) * 8 {
		for _, laced := range []bool{false, true} {
			w, h := 1+rnd.Intn(40), 1+rnd.Intn(40)
			for _, p := range []picture{somePng(rnd, i, w, h, laced), someGif(rnd, i, w, h, laced)} {
				grow(t, p, slices.Collect(slices.Chunk(p.file, 1+rnd.Intn(200))))
			}
		}
	}
}

// All sides up to 10, laced: passes without a place are no lines.
func TestP20_3AllSides(t *testing.T) {
	rnd := rand.New(rand.NewSource(234))
	for w := 1; w <= 10; w++ {
		for h := 1; h <= 10; h++ {
			for _, p := range []picture{greyPng(w, h, true, numbers(rnd, w*h, 256)...), plainGif(w, h, true, numbers(rnd, w*h, 4)...)} {
				grow(t, p, slices.Collect(slices.Chunk(p.file, 3)))
			}
		}
	}
}

// Pictures as great as may be.
func TestP20_3Greatest(t *testing.T) {
	rnd := rand.New(rand.NewSource(235))
	for i, side := range [][2]int{{256, 256}, {2048, 32}, {32, 2048}} {
		h := api.Head{W: side[0], H: side[1], Color: 3, Depth: 2, Laced: i != 1}
		for _, p := range []picture{
			pngOf(rasterOf(rnd, h), pngHow{how: 1, kind: 5, size: 3000}),
			gifOf(h.W, h.H, h.Laced, tintsOf(4), numbers(rnd, h.W*h.H, 4), gifHow{least: 2, size: 200, clear: -1}),
		} {
			grow(t, p, slices.Collect(slices.Chunk(p.file, 4000)))
		}
	}
}

// Of a laced picture nothing is left out of the view once the first pass is there.
func TestP20_3ViewOfFirstPass(t *testing.T) {
	rnd := rand.New(rand.NewSource(236))
	for i := range 60 {
		w, h := 1+rnd.Intn(30), 1+rnd.Intn(30)
		for _, p := range []picture{somePng(rnd, i, w, h, true), someGif(rnd, i, w, h, true)} {
			c := must(canvas.New(w, h))
			for _, l := range must(Lines(p.file)) {
				if l.Pass == 1 && c.Lay(l) != api.OK {
					t.Fatal(l)
				}
			}
			m, view := p.image(), c.View(p.woven)
			for j, colour := range view.Pix {
				x, y := j%w, j/w&^7
				if !p.woven {
					x &^= 7
				}
				if colour != m.Pix[y*w+x] {
					t.Fatal(p.raster.Head, j, colour)
				}
			}
		}
	}
}
