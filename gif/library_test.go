package gif

import (
	"bytes"
	"image"
	"image/color"
	library "image/gif"
	"math/rand"
	"slices"
	"testing"

	"halftone/adam"
	"halftone/api"
	"halftone/pixel"
)

// four is a colour as the library tells it, of whichever kind it is.
func four(c color.Color) [4]uint32 {
	r, g, b, a := c.RGBA()
	return [4]uint32{r, g, b, a}
}

// sameColours holds an image of ours against one of the library's.
func sameColours(t *testing.T, ours api.Image, theirs image.Image) {
	t.Helper()
	if size := theirs.Bounds().Size(); size.X != ours.W || size.Y != ours.H {
		t.Fatal(size, ours.W, ours.H)
	}
	for i, c := range ours.Pix {
		got := theirs.At(i%ours.W, i/ours.W)
		if four(got) != four(color.NRGBA64{R: c.R, G: c.G, B: c.B, A: c.A}) {
			t.Fatal(i, c, got)
		}
	}
}

// painted is an image of lines.
func painted(h api.Head, l []api.Line) api.Image {
	m := api.Image{W: h.W, H: h.H, Pix: make([]api.Color, h.W*h.H)}
	for _, x := range l {
		for i, s := range x.Spots {
			m.Pix[s.Y*h.W+s.X] = x.Cols[i]
		}
	}
	return m
}

// What the library writes is read, with its colours: with a table of the screen's and of the picture's.
func TestP18_3LibraryWrites(t *testing.T) {
	rnd := rand.New(rand.NewSource(221))
	for i := range 300 {
		box := image.Rect(0, 0, 1+rnd.Intn(50), 1+rnd.Intn(50))
		var palette color.Palette
		for range 1 + rnd.Intn(1<<(1+rnd.Intn(8))) {
			palette = append(palette, color.RGBA{R: byte(rnd.Intn(256)), G: byte(rnd.Intn(256)), B: byte(rnd.Intn(256)), A: 255})
		}
		if i%3 == 0 {
			palette[rnd.Intn(len(palette))] = color.RGBA{}
		}
		m := image.NewPaletted(box, palette)
		for j := range m.Pix {
			m.Pix[j] = byte(rnd.Intn(len(palette)))
		}
		all := library.GIF{Image: []*image.Paletted{m}, Delay: []int{i % 2}}
		if i%4 < 2 {
			all.Config = image.Config{ColorModel: palette, Width: box.Dx(), Height: box.Dy()}
		}
		var out bytes.Buffer
		if err := library.EncodeAll(&out, &all); err != nil {
			t.Fatal(err)
		}
		d := New()
		l, e := d.Push(out.Bytes())
		h, ok := d.Head()
		if e != api.OK || !ok || !d.Done() {
			t.Fatal(h, ok, e, d.Done())
		}
		sameColours(t, painted(h, l), m)
		r, e := Read(out.Bytes())
		if e != api.OK {
			t.Fatal(e)
		}
		for j, v := range m.Pix {
			if r.Samples[j] != int(v) {
				t.Fatal(j, v, r.Samples[j])
			}
		}
		isPicture(t, l, r)
	}
}

// What is read of a file the library reads likewise, laced and not.
func TestP18_3LibraryReads(t *testing.T) {
	rnd := rand.New(rand.NewSource(222))
	for i := range 300 {
		m := some(rnd, 1+rnd.Intn(40), 1+rnd.Intn(40), 2<<(i%8), 2+rnd.Intn(7))
		m.laced = i%2 == 0
		m.ahead, m.behind = aside(254, []byte("ahead")), aside(254, []byte("behind"))
		b := m.file(t)
		theirs, err := library.Decode(bytes.NewReader(b))
		if err != nil {
			t.Fatal(m.head(), err)
		}
		l, e := New().Push(b)
		if e != api.OK {
			t.Fatal(m.head(), e)
		}
		sameColours(t, painted(m.head(), l), theirs)
	}
}

// Of a file that Read takes the lines are all lines of its head, in their order, with its raster's colours: by what layers 14 and 15 say.
func TestP18_3AllLines(t *testing.T) {
	rnd := rand.New(rand.NewSource(223))
	for i := range 400 {
		made := some(rnd, 1+rnd.Intn(30), 1+rnd.Intn(30), 2<<(i%8), 2+rnd.Intn(7))
		b := made.file(t)
		r, e := Read(b)
		if e != api.OK {
			t.Fatal(e)
		}
		if e := pixel.Check(r); e != api.OK {
			t.Fatal(e)
		}
		m, _ := pixel.Image(r)
		d := New()
		l, _ := d.Push(b)
		if h, ok := d.Head(); h != r.Head || !ok {
			t.Fatal(h, ok)
		}
		n := 0
		for pass, spots := range adam.Woven(r.Head.W, r.Head.H, r.Head.Laced) {
			if l[n].Pass != pass || !slices.Equal(l[n].Spots, spots) || len(l[n].Cols) != len(spots) {
				t.Fatal(r.Head, n, l[n])
			}
			for j, s := range spots {
				if l[n].Cols[j] != m.Pix[s.Y*m.W+s.X] {
					t.Fatal(r.Head, n, j)
				}
			}
			n++
		}
		if n != len(l) || d.Told() != n {
			t.Fatal(r.Head, n, len(l), d.Told())
		}
	}
}
