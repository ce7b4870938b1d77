package front

import (
	"bytes"
	"encoding/binary"
	"hash/crc32"
	"image"
	"image/color"
	librarygif "image/gif"
	librarypng "image/png"
	"math/rand"
	"slices"
	"testing"

	"halftone/api"
)

// isPicture holds Check and Lines of a file against its picture.
func isPicture(t *testing.T, p picture) {
	t.Helper()
	want, lines := p.image(), p.lines()
	m, e := Check(p.file)
	if e != api.OK || !sameImage(m, want) {
		t.Fatal(p.raster.Head, e)
	}
	l, e := Lines(p.file)
	if e != api.OK || !sameLines(l, lines) {
		t.Fatal(p.raster.Head, brief(l), e)
	}
	for _, one := range l {
		for i, s := range one.Spots {
			if one.Cols[i] != m.Pix[s.Y*m.W+s.X] {
				t.Fatal(p.raster.Head, s, one.Cols[i])
			}
		}
	}
	f := New()
	l, e = f.Push(p.file)
	h, known := f.Head()
	if e != api.OK || !sameLines(l, lines) || !f.Done() || f.Told() != len(lines) || f.Woven() != p.woven || !known || h != p.raster.Head {
		t.Fatal(p.raster.Head, h, known, brief(l), e, f.Done(), f.Told(), f.Woven())
	}
}

// Every kind of colours, laced and not, of many sizes.
func TestP20_1EveryKind(t *testing.T) {
	rnd := rand.New(rand.NewSource(211))
	for _, side := range [][2]int{{1, 1}, {1, 9}, {9, 1}, {2, 3}, {5, 5}, {8, 8}, {17, 9}, {33, 31}} {
		for _, laced := range []bool{false, true} {
			for i := range kinds {
				isPicture(t, somePng(rnd, i, side[0], side[1], laced))
			}
			for i := range 8 {
				isPicture(t, someGif(rnd, i, side[0], side[1], laced))
			}
		}
	}
}

// Pictures as great as may be.
func TestP20_1Greatest(t *testing.T) {
	rnd := rand.New(rand.NewSource(212))
	for i, side := range [][2]int{{256, 256}, {2048, 32}, {32, 2048}, {2048, 1}, {1, 2048}} {
		h := api.Head{W: side[0], H: side[1], Color: 3, Depth: 4, Laced: i%2 == 0}
		isPicture(t, pngOf(rasterOf(rnd, h), pngHow{how: 1, kind: i % 5, size: 5000}))
		isPicture(t, gifOf(h.W, h.H, h.Laced, tintsOf(16), numbers(rnd, h.W*h.H, 16), gifHow{least: 4, size: 255, clear: 3}))
	}
}

// padded is a PNG with a chunk that says nothing behind its IHDR, so that it has just so many bytes.
func padded(p picture, n int) picture {
	text := append([]byte("tEXt"), make([]byte, n-len(p.file)-12)...)
	b := binary.BigEndian.AppendUint32(nil, uint32(len(text)-4))
	b = binary.BigEndian.AppendUint32(append(b, text...), crc32.ChecksumIEEE(text))
	p.file = slices.Insert(slices.Clone(p.file), 8+25, b...)
	return p
}

// stretched is a GIF with an extension that says nothing behind the picture, so that it has just so many bytes.
func stretched(p picture, n int) picture {
	end := len(p.file) - 1
	room := n - len(p.file) - 3
	parts := bytes.Repeat([]byte{1, 0}, room/2)
	if room%2 == 1 {
		// A byte is left over: the last block has it.
		parts = append(parts[:len(parts)-2], 2, 0, 0)
	}
	p.file = slices.Concat(p.file[:end], []byte{33, 254}, parts, []byte{0, 59})
	return p
}

// Files as long as may be, and by one byte longer.
func TestP20_1Longest(t *testing.T) {
	grey, plain := greyPng(1, 2, false, 1, 2), plainGif(1, 2, false, 1, 2)
	for _, n := range []int{api.MaxFile - 1, api.MaxFile} {
		for _, p := range []picture{padded(grey, n), stretched(plain, n)} {
			if len(p.file) != n {
				t.Fatal(len(p.file), n)
			}
			isPicture(t, p)
		}
	}
	for _, p := range []picture{padded(grey, api.MaxFile+1), stretched(plain, api.MaxFile+1)} {
		if m, e := Check(p.file); e != api.ErrLong || m.W != 0 || m.H != 0 || len(m.Pix) != 0 {
			t.Fatal(m, e)
		}
		if l, e := Lines(p.file); e != api.ErrLong || len(l) != 0 {
			t.Fatal(l, e)
		}
		if l, e := Passes(p.file, api.MaxBody); e != api.ErrLong || len(l) != 0 {
			t.Fatal(l, e)
		}
		// What was told ahead of the byte that is too much was told.
		if l, e := New().Push(p.file); e != api.ErrLong || !sameLines(l, p.lines()) {
			t.Fatal(l, e)
		}
	}
}

// A file with anything behind it is refused; beside the error there is nothing.
func TestP20_1BytesBehind(t *testing.T) {
	rnd := rand.New(rand.NewSource(213))
	for i := range 24 {
		p := some(rnd, i, 1+rnd.Intn(7), 1+rnd.Intn(7))
		for _, behind := range [][]byte{{0}, {59}, p.file, {137}, make([]byte, 300)} {
			b := slices.Concat(p.file, behind)
			if m, e := Check(b); e != api.ErrTrail || m.W != 0 || m.H != 0 || len(m.Pix) != 0 {
				t.Fatal(m, e)
			}
			if l, e := Lines(b); e != api.ErrTrail || len(l) != 0 {
				t.Fatal(l, e)
			}
		}
	}
}

// ofLibrary holds Check of a file that the library wrote against what the library reads of it.
func ofLibrary(t *testing.T, b []byte) {
	t.Helper()
	theirs, _, err := image.Decode(bytes.NewReader(b))
	if err != nil {
		t.Fatal(err)
	}
	m, e := Check(b)
	size := theirs.Bounds().Size()
	if e != api.OK || m.W != size.X || m.H != size.Y || len(m.Pix) != m.W*m.H {
		t.Fatal(e, m.W, m.H, size)
	}
	for i, c := range m.Pix {
		r, g, bl, a := color.NRGBA64{R: c.R, G: c.G, B: c.B, A: c.A}.RGBA()
		wr, wg, wb, wa := theirs.At(i%m.W, i/m.W).RGBA()
		if r != wr || g != wg || bl != wb || a != wa {
			t.Fatal(i, c, theirs.At(i%m.W, i/m.W))
		}
	}
}

func TestP20_1LibraryWrites(t *testing.T) {
	rnd := rand.New(rand.NewSource(214))
	for range 60 {
		box := image.Rect(0, 0, 1+rnd.Intn(30), 1+rnd.Intn(30))
		full := image.NewNRGBA(box)
		rnd.Read(full.Pix)
		var table color.Palette
		for range 2 + rnd.Intn(100) {
			table = append(table, color.RGBA{R: byte(rnd.Intn(256)), G: byte(rnd.Intn(256)), B: byte(rnd.Intn(256)), A: 255})
		}
		few := image.NewPaletted(box, table)
		for i := range few.Pix {
			few.Pix[i] = byte(rnd.Intn(len(table)))
		}
		for _, m := range []image.Image{full, few} {
			var b bytes.Buffer
			if err := librarypng.Encode(&b, m); err != nil {
				t.Fatal(err)
			}
			ofLibrary(t, b.Bytes())
		}
		var b bytes.Buffer
		if err := librarygif.Encode(&b, few, nil); err != nil {
			t.Fatal(err)
		}
		ofLibrary(t, b.Bytes())
	}
}
