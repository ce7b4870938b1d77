package session

import (
	"halftone/api"
	"halftone/canvas"
	"halftone/crc"
	"halftone/front"
)

// picture is what a file's first bytes tell.
type picture struct {
	file   *front.Front
	sum    uint32
	wrong  api.Errno      // the error that the bytes have
	canvas *canvas.Canvas // nil, as long as there is no head
}

func newPicture() picture { return picture{file: front.New()} }

// push goes on with more bytes.
func (p *picture) push(b []byte) {
	var lines []api.Line
	lines, p.wrong = p.file.Push(b)
	p.sum = crc.More(p.sum, b)
	if h, known := p.file.Head(); known && p.canvas == nil {
		p.canvas, _ = canvas.New(h.W, h.H)
	}
	for _, l := range lines {
		p.canvas.Lay(l)
	}
}

// isWhole asks whether the bytes are all of a file's of this sum.
func (p *picture) isWhole(sum uint32) bool { return p.file.Done() && p.sum == sum }

// like is a canvas of its own, of which the same is known.
func like(c *canvas.Canvas) *canvas.Canvas {
	if c == nil {
		return nil
	}
	m := c.Image()
	var known api.Line
	for i, is := range c.Mask() {
		if is {
			known.Spots = append(known.Spots, api.Spot{X: i % m.W, Y: i / m.W})
			known.Cols = append(known.Cols, m.Pix[i])
		}
	}
	other, _ := canvas.New(m.W, m.H)
	other.Lay(known)
	return other
}
