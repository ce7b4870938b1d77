package head

import (
	"bytes"
	"image"
	"image/color"
	"image/png"
	"math"
	"math/rand"
	"slices"
	"testing"

	"halftone/api"
)

// fitting is all kinds of colours with all their depths, of a picture of w by h.
func fitting(w, h int) []api.Head {
	var l []api.Head
	for color := range 7 {
		for _, depth := range depths(color) {
			l = append(l, api.Head{W: w, H: h, Color: color, Depth: depth}, api.Head{W: w, H: h, Color: color, Depth: depth, Laced: true})
		}
	}
	return l
}

// wrong are heads that may not be, each for one reason alone.
func wrong() []api.Head {
	return []api.Head{
		{},
		{W: 0, H: 1, Color: 2, Depth: 8},
		{W: 1, H: 0, Color: 2, Depth: 8},
		{W: -1, H: 1, Color: 3, Depth: 8},
		{W: 1, H: -1, Color: 3, Depth: 8},
		{W: -2, H: -2, Color: 0, Depth: 8},
		{W: 2049, H: 1, Color: 0, Depth: 8},
		{W: 1, H: 2049, Color: 0, Depth: 8},
		{W: 257, H: 256, Color: 0, Depth: 1, Laced: true},
		{W: 2048, H: 33, Color: 6, Depth: 16},
		{W: 1<<32 + 1, H: 1, Color: 3, Depth: 8},
		{W: 1 << 32, H: 1 << 32, Color: 3, Depth: 8},
		{W: 1, H: math.MaxInt, Color: 3, Depth: 8},
		{W: math.MinInt, H: 1, Color: 3, Depth: 8},
		{W: 1, H: 1, Color: 3, Depth: 16},
		{W: 1, H: 1, Color: 2, Depth: 4},
		{W: 1, H: 1, Color: 4, Depth: 1},
		{W: 1, H: 1, Color: 6, Depth: 0},
		{W: 1, H: 1, Color: 0, Depth: 3},
		{W: 1, H: 1, Color: 1, Depth: 8},
		{W: 1, H: 1, Color: 5, Depth: 8},
		{W: 1, H: 1, Color: 7, Depth: 8},
		{W: 1, H: 1, Color: -1, Depth: 8},
		{W: 1, H: 1, Color: 3, Depth: -1},
		{W: 1, H: 1, Color: 256 + 3, Depth: 8},
		{W: 1, H: 1, Color: 3, Depth: 256 + 8},
		{W: 1, H: 1, Color: math.MinInt, Depth: 8},
		{W: 1, H: 1, Color: 0, Depth: math.MinInt},
		{W: 1, H: 1, Color: 3, Depth: math.MaxInt},
	}
}

func TestP12_1Example(t *testing.T) {
	b := []byte{0, 0, 0, 2, 0, 0, 0, 3, 8, 2, 0, 0, 1}
	want := api.Head{W: 2, H: 3, Color: 2, Depth: 8, Laced: true}
	if h, e := Read(b); h != want || e != api.OK {
		t.Error(h, e)
	}
	if got, e := Write(want); !bytes.Equal(got, b) || e != api.OK {
		t.Error(got, e)
	}
	b[8] = 3
	if h, e := Read(b); h != (api.Head{}) || e != api.ErrHead {
		t.Error(h, e)
	}
}

func TestP12_1NamedSides(t *testing.T) {
	for _, c := range []struct {
		w, h int
		want bool
	}{
		{1, 1, true}, {2048, 32, true}, {32, 2048, true}, {256, 256, true}, {2048, 1, true}, {1, 2048, true},
		{0, 1, false}, {1, 0, false}, {0, 0, false}, {-1, 1, false}, {1, -1, false}, {-1, -1, false},
		{2049, 1, false}, {1, 2049, false}, {2048, 33, false}, {33, 2048, false}, {257, 256, false}, {256, 257, false},
		{2048, 2048, false}, {65536, 1, false}, {1 << 32, 1 << 32, false}, {math.MinInt, 2, false}, {math.MaxInt, math.MaxInt, false},
	} {
		for _, h := range fitting(c.w, c.h) {
			if May(h) != c.want {
				t.Error(h)
			}
		}
	}
}

func TestP12_1ManySides(t *testing.T) {
	sides := []int{
		math.MinInt, -1 << 32, -65536, -2048, -256, -1, 0, 1, 2, 31, 32, 33, 255, 256, 257, 1023, 1024,
		2047, 2048, 2049, 4096, 32768, 65535, 65536, 65537, 1<<31 - 1, 1 << 31, 1<<32 - 1, 1 << 32, 1<<32 + 1, 1 << 62, math.MaxInt,
	}
	for _, w := range sides {
		for _, h := range sides {
			for _, one := range fitting(w, h) {
				if May(one) != slowMay(one) {
					t.Fatal(one)
				}
			}
		}
	}
	// Every width with the height with which it just may be, and with one more.
	for w := 1; w <= api.MaxSide; w++ {
		most := min(api.MaxSide, api.MaxPixels/w)
		one := api.Head{W: w, H: most, Depth: 1}
		turned := api.Head{W: most, H: w, Depth: 1}
		if !May(one) || !May(turned) {
			t.Fatal(one)
		}
		one.H++
		turned.W++
		if May(one) || May(turned) {
			t.Fatal(one)
		}
	}
}

func TestP12_1KindsAndDepths(t *testing.T) {
	numbers := []int{math.MinInt, -1 << 32, -16, 32, 64, 255, 256, 258, 264, 1 << 32, 1<<32 + 8, math.MaxInt}
	for n := -8; n <= 20; n++ {
		numbers = append(numbers, n)
	}
	count := 0
	for _, color := range numbers {
		for _, depth := range numbers {
			for _, laced := range []bool{false, true} {
				h := api.Head{W: 3, H: 2, Color: color, Depth: depth, Laced: laced}
				if May(h) != slices.Contains(depths(color), depth) {
					t.Error(h)
				}
				if May(h) {
					count++
				}
			}
		}
	}
	if count != 30 {
		t.Error(count)
	}
}

func TestP12_1Samples(t *testing.T) {
	want := map[int]int{0: 1, 2: 3, 3: 1, 4: 2, 6: 4}
	for _, color := range []int{math.MinInt, -256, -6, -1, 0, 1, 2, 3, 4, 5, 6, 7, 8, 256, 258, 1<<32 + 2, math.MaxInt} {
		if n := Samples(color); n != want[color] {
			t.Error(color, n)
		}
	}
}

// asSlow holds that bytes are read as the chapter's words say.
func asSlow(t *testing.T, b []byte) {
	t.Helper()
	h, e := Read(b)
	if want, err := slowRead(b); h != want || e != err {
		t.Fatal(b, h, e, "not", want, err)
	}
}

func TestP12_1ReadLengths(t *testing.T) {
	b := append(ihdr(api.Head{W: 2, H: 3, Color: 2, Depth: 8}), make([]byte, 30)...)
	for n := range len(b) + 1 {
		h, e := Read(b[:n])
		if (n == 13) != (e == api.OK) || e != api.OK && (e != api.ErrHead || h != api.Head{}) {
			t.Error(n, h, e)
		}
	}
	if h, e := Read(nil); h != (api.Head{}) || e != api.ErrHead {
		t.Error(h, e)
	}
}

// Each byte of a head as every other one.
func TestP12_1ReadEveryByte(t *testing.T) {
	for _, h := range append(fitting(2, 3), fitting(2048, 32)...) {
		b := ihdr(h)
		for i := range b {
			was := b[i]
			for v := range 256 {
				b[i] = byte(v)
				asSlow(t, b)
			}
			b[i] = was
		}
	}
}

func TestP12_1ReadLastThree(t *testing.T) {
	b := ihdr(api.Head{W: 2, H: 3, Color: 2, Depth: 8})
	for i := 10; i < 13; i++ {
		for v := range 256 {
			b[i] = byte(v)
			h, e := Read(b)
			good := v == 0 || i == 12 && v == 1
			if good != (e == api.OK) || good && h.Laced != (v == 1) || !good && (e != api.ErrHead || h != api.Head{}) {
				t.Fatal(i, v, h, e)
			}
		}
		b[i] = 0
	}
}

// Depth stands ahead of Color, each with every other one.
func TestP12_1ReadDepthAndColor(t *testing.T) {
	b := ihdr(api.Head{W: 2, H: 3, Color: 2, Depth: 8})
	for depth := range 256 {
		for color := range 256 {
			b[8], b[9] = byte(depth), byte(color)
			asSlow(t, b)
		}
	}
}

func TestP12_1ReadSides(t *testing.T) {
	sides := []int{0, 1, 2, 32, 33, 255, 256, 257, 2047, 2048, 2049, 65536, 1 << 24, 1<<31 - 1, 1 << 31, 1<<31 + 1, 1<<32 - 1}
	for _, w := range sides {
		for _, h := range sides {
			asSlow(t, ihdr(api.Head{W: w, H: h, Color: 3, Depth: 4}))
		}
	}
}

func TestP12_1WriteWrong(t *testing.T) {
	for _, h := range wrong() {
		if b, e := Write(h); len(b) != 0 || e != api.ErrHead || May(h) {
			t.Error(h, b, e)
		}
	}
}

func TestP12_2HeadThereAndBack(t *testing.T) {
	for _, side := range [][2]int{{1, 1}, {2, 3}, {255, 257}, {256, 256}, {2048, 1}, {1, 2048}, {2048, 32}, {32, 2048}, {1023, 64}} {
		for _, h := range fitting(side[0], side[1]) {
			b, e := Write(h)
			if !bytes.Equal(b, ihdr(h)) || e != api.OK {
				t.Fatal(h, b, e)
			}
			if got, e := Read(b); got != h || e != api.OK {
				t.Fatal(h, got, e)
			}
		}
	}
}

// Whatever is read is written as it was.
func TestP12_2HeadBackAndThere(t *testing.T) {
	rnd := rand.New(rand.NewSource(121))
	read := 0
	for range 20000 {
		b := ihdr(api.Head{W: rnd.Intn(400), H: rnd.Intn(400), Color: rnd.Intn(8), Depth: 1 << rnd.Intn(6), Laced: rnd.Intn(2) == 0})
		if rnd.Intn(3) == 0 {
			b[rnd.Intn(13)] = byte(rnd.Intn(256))
		}
		asSlow(t, b)
		h, e := Read(b)
		if e != api.OK {
			continue
		}
		read++
		if got, e := Write(h); !bytes.Equal(got, b) || e != api.OK {
			t.Fatal(b, got, e)
		}
	}
	if read < 1000 {
		t.Error(read)
	}
}

// The heads of files that the library writes.
func TestP12_1LibrarysFiles(t *testing.T) {
	r := image.Rect(0, 0, 5, 7)
	half := image.NewNRGBA(r) // covers nothing, so that its cover is written
	deep := image.NewNRGBA64(r)
	solid := image.NewRGBA(r)
	for i := range solid.Pix {
		solid.Pix[i] = 255
	}
	palette := func(n int) image.Image {
		var p color.Palette
		for i := range n {
			p = append(p, color.NRGBA{byte(i), 1, 2, 255})
		}
		return image.NewPaletted(r, p)
	}
	for i, c := range []struct {
		m            image.Image
		color, depth int
	}{
		{image.NewGray(r), 0, 8}, {image.NewGray16(r), 0, 16}, {solid, 2, 8}, {half, 6, 8}, {deep, 6, 16},
		{palette(2), 3, 1}, {palette(4), 3, 2}, {palette(16), 3, 4}, {palette(17), 3, 8},
	} {
		var file bytes.Buffer
		if err := png.Encode(&file, c.m); err != nil {
			t.Fatal(err)
		}
		// Behind the file's eight bytes, the chunk's size and its kind.
		h, e := Read(file.Bytes()[16 : 16+13])
		if h != (api.Head{W: 5, H: 7, Color: c.color, Depth: c.depth}) || e != api.OK {
			t.Error(i, h, e)
		}
	}
}

func TestP12_1HeadHanded(t *testing.T) {
	room := append(ihdr(api.Head{W: 2, H: 3, Color: 2, Depth: 8}), 7, 7, 7)
	before := slices.Clone(room)
	h, e := Read(room[:13])
	if e != api.OK || !bytes.Equal(room, before) {
		t.Error(h, e, room)
	}
	one, _ := Write(h)
	clear(one[:cap(one)])
	if two, _ := Write(h); !bytes.Equal(two, before[:13]) {
		t.Error(two)
	}
}
