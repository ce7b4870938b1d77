package png

import (
	"bytes"
	"image"
	"image/color"
	library "image/png"
	"math/rand"
	"slices"
	"testing"

	"halftone/adam"
	"halftone/api"
	"halftone/pixel"
)

// four is a colour as the library tells it, of whichever kind it is.
func four(c color.Color) [4]uint32 {
	r, g, b, a := c.RGBA()
	return [4]uint32{r, g, b, a}
}

// sameColours holds an image of ours against one of the library's.
func sameColours(t *testing.T, ours api.Image, theirs image.Image) {
	t.Helper()
	if size := theirs.Bounds().Size(); size.X != ours.W || size.Y != ours.H {
		t.Fatal(size, ours.W, ours.H)
	}
	for i, c := range ours.Pix {
		got := theirs.At(i%ours.W, i/ours.W)
		if four(got) != four(color.NRGBA64{R: c.R, G: c.G, B: c.B, A: c.A}) {
			t.Fatal(i, c, got)
		}
	}
}

// painted is an image of lines.
func painted(h api.Head, l []api.Line) api.Image {
	m := api.Image{W: h.W, H: h.H, Pix: make([]api.Color, h.W*h.H)}
	for _, x := range l {
		for i, s := range x.Spots {
			m.Pix[s.Y*h.W+s.X] = x.Cols[i]
		}
	}
	return m
}

// What the library writes is read, with its colours.
func TestP16_3LibraryWrites(t *testing.T) {
	rnd := rand.New(rand.NewSource(201))
	heads := map[[2]int]int{}
	for range 400 {
		box := image.Rect(0, 0, 1+rnd.Intn(40), 1+rnd.Intn(40))
		var palette color.Palette
		for range 1 + rnd.Intn(1<<(1+rnd.Intn(8))) {
			palette = append(palette, color.NRGBA{R: byte(rnd.Intn(256)), G: byte(rnd.Intn(256)), B: byte(rnd.Intn(256)), A: byte(rnd.Intn(256))})
		}
		pictures := []interface {
			image.Image
			Set(x, y int, c color.Color)
		}{
			image.NewGray(box), image.NewGray16(box), image.NewRGBA(box), image.NewNRGBA(box), image.NewNRGBA64(box), image.NewRGBA64(box), image.NewPaletted(box, palette),
		}
		m := pictures[rnd.Intn(len(pictures))]
		seen := uint16(65535)
		if rnd.Intn(2) == 0 {
			seen = uint16(rnd.Intn(65536))
		}
		for y := range box.Dy() {
			for x := range box.Dx() {
				m.Set(x, y, color.NRGBA64{R: uint16(rnd.Intn(65536)), G: uint16(x * 999), B: uint16(y * 777), A: seen})
			}
		}
		var out bytes.Buffer
		writer := library.Encoder{CompressionLevel: []library.CompressionLevel{library.DefaultCompression, library.NoCompression, library.BestSpeed, library.BestCompression}[rnd.Intn(4)]}
		if err := writer.Encode(&out, m); err != nil {
			t.Fatal(err)
		}
		d := New()
		l, e := d.Push(out.Bytes())
		h, ok := d.Head()
		if e != api.OK || !ok || !d.Done() {
			t.Fatal(h, ok, e, d.Done())
		}
		heads[[2]int{h.Color, h.Depth}]++
		theirs, err := library.Decode(bytes.NewReader(out.Bytes()))
		if err != nil {
			t.Fatal(err)
		}
		sameColours(t, painted(h, l), theirs)
		r, e := Read(out.Bytes())
		if e != api.OK {
			t.Fatal(e)
		}
		isPicture(t, l, r)
	}
	if len(heads) < 10 {
		t.Error(heads)
	}
}

// What is read of a file the library reads likewise: every kind of colours and depth, laced and not, with all filters.
func TestP16_3LibraryReads(t *testing.T) {
	rnd := rand.New(rand.NewSource(202))
	for _, k := range kinds {
		for _, laced := range []bool{false, true} {
			for range 12 {
				r := some(rnd, api.Head{W: 1 + rnd.Intn(20), H: 1 + rnd.Intn(20), Color: k[0], Depth: k[1], Laced: laced})
				filters := numbers(rnd, 200, 5)
				packed := pack(t, text(t, r, func(line int) int { return filters[line] }), rnd.Intn(4))
				b := slices.Concat(front(r), idats(packed, 1+rnd.Intn(len(packed))), iend)
				theirs, err := library.Decode(bytes.NewReader(b))
				if err != nil {
					t.Fatal(r.Head, err)
				}
				l, e := New().Push(b)
				if e != api.OK {
					t.Fatal(r.Head, e)
				}
				sameColours(t, painted(r.Head, l), theirs)
			}
		}
	}
}

// Of a file that Read takes the lines are all lines of its head, in their order, with its raster's colours: by what layers 14 and 15 say.
func TestP16_3AllLines(t *testing.T) {
	rnd := rand.New(rand.NewSource(203))
	for range 300 {
		k := kinds[rnd.Intn(len(kinds))]
		b := whole(t, some(rnd, api.Head{W: 1 + rnd.Intn(30), H: 1 + rnd.Intn(30), Color: k[0], Depth: k[1], Laced: rnd.Intn(2) == 0}))
		r, e := Read(b)
		if e != api.OK {
			t.Fatal(e)
		}
		if e := pixel.Check(r); e != api.OK {
			t.Fatal(e)
		}
		m, _ := pixel.Image(r)
		d := New()
		l, _ := d.Push(b)
		i := 0
		for pass, spots := range adam.Lines(r.Head.W, r.Head.H, r.Head.Laced) {
			if l[i].Pass != pass || !slices.Equal(l[i].Spots, spots) || len(l[i].Cols) != len(spots) {
				t.Fatal(r.Head, i, l[i])
			}
			for j, s := range spots {
				if l[i].Cols[j] != m.Pix[s.Y*m.W+s.X] {
					t.Fatal(r.Head, i, j)
				}
			}
			i++
		}
		if i != len(l) || d.Told() != i || i != adam.Count(r.Head.W, r.Head.H, r.Head.Laced) {
			t.Fatal(r.Head, i, len(l), d.Told())
		}
	}
}
