package front

import (
	"slices"
	"testing"

	"halftone/api"
	"halftone/canvas"
)

func TestP20_1Examples(t *testing.T) {
	if m, e := Check(nil); e != api.ErrShort || m.W != 0 || m.H != 0 || len(m.Pix) != 0 {
		t.Error(m, e)
	}
	if m, e := Check([]byte{1}); e != api.ErrForm || m.W != 0 || m.H != 0 || len(m.Pix) != 0 {
		t.Error(m, e)
	}
	// The first example of the whole document: one grey pixel.
	white := api.Color{R: 65535, G: 65535, B: 65535, A: 65535}
	if m, e := Check(greyPng(1, 1, false, 255).file); e != api.OK || !sameImage(m, api.Image{W: 1, H: 1, Pix: []api.Color{white}}) {
		t.Error(m, e)
	}
	// The third one: of a PNG's first 30 bytes, and of all up to its IEND.
	p := greyPng(2, 2, false, 1, 2, 3, 4)
	f := New()
	if l, e := f.Push(p.file[:30]); len(l) != 0 || e != api.OK {
		t.Error(l, e)
	}
	if l, e := f.Push(p.file[30 : len(p.file)-12]); !sameLines(l, p.lines()) || e != api.OK || f.Done() {
		t.Error(l, e)
	}
	// The fourth one: the first line of a laced one of 8 by 8.
	l, e := Lines(greyPng(8, 8, true, make([]int, 64)...).file)
	if e != api.OK || l[0].Pass != 1 || !slices.Equal(l[0].Spots, []api.Spot{{}}) {
		t.Fatal(l, e)
	}
	c := must(canvas.New(8, 8))
	c.Lay(l[0])
	if v := c.View(false); !slices.Equal(v.Pix, slices.Repeat(l[0].Cols, 64)) {
		t.Error(v)
	}
}

// nothing asks all of a front that has not read a line, nor the head.
func nothing(t *testing.T, f *Front, woven bool) {
	t.Helper()
	if h, known := f.Head(); h != (api.Head{}) || known || f.Done() || f.Told() != 0 || f.Woven() != woven {
		t.Fatal(h, known, f.Done(), f.Told(), f.Woven())
	}
}

// answers pushes bytes that tell no line.
func answers(t *testing.T, f *Front, b []byte, want api.Errno) {
	t.Helper()
	if l, e := f.Push(b); len(l) != 0 || e != want {
		t.Fatal(b, l, e, "not", want)
	}
}

func TestP20_1NilFront(t *testing.T) {
	var f *Front
	for _, b := range [][]byte{nil, {}, {137}, {71}, {1}, greyPng(1, 1, false, 0).file} {
		answers(t, f, b, api.ErrArg)
		nothing(t, f, false)
	}
}

// Ahead of the first byte nothing is known, however often nothing comes.
func TestP20_1NoByte(t *testing.T) {
	f := New()
	nothing(t, f, false)
	for range 3 {
		answers(t, f, nil, api.OK)
		nothing(t, f, false)
		answers(t, f, []byte{}, api.OK)
		nothing(t, f, false)
	}
	p := plainGif(2, 2, true, 0, 1, 2, 3)
	if l, e := f.Push(p.file); !sameLines(l, p.lines()) || e != api.OK || !f.Done() || !f.Woven() {
		t.Error(l, e)
	}
}

// The first byte says which file it is, by itself, behind empty pieces, and with others behind it.
func TestP20_1EveryFirstByte(t *testing.T) {
	grey, plain := greyPng(2, 3, true, 1, 2, 3, 4, 5, 6), plainGif(2, 3, true, 0, 1, 2, 3, 2, 1)
	for v := range 256 {
		first := []byte{byte(v)}
		want := api.ErrForm
		if v == 137 || v == 71 {
			want = api.OK
		}
		f := New()
		answers(t, f, nil, api.OK)
		answers(t, f, first, want)
		nothing(t, f, v == 71)
		answers(t, f, []byte{}, want)
		nothing(t, f, v == 71)
		for _, p := range []picture{grey, plain} {
			b := slices.Concat(first, p.file[1:])
			r := asSlow(t, b, twice(b, by(b, 5))...)
			if (r.refused() == api.OK) != (byte(v) == p.file[0]) {
				t.Error(v, r.refused())
			}
			if want != api.OK {
				other := New()
				answers(t, other, b, api.ErrForm)
				nothing(t, other, false)
			}
		}
		if want == api.OK {
			continue
		}
		// Behind a wrong one nothing begins anew.
		for _, b := range [][]byte{grey.file, plain.file, {137}, {71}, nil} {
			answers(t, f, b, api.ErrForm)
			nothing(t, f, false)
		}
	}
}

// What stands at another place doesn't say it.
func TestP20_1FirstByteOnly(t *testing.T) {
	for _, p := range []picture{greyPng(1, 2, false, 7, 8), plainGif(1, 2, false, 3, 2)} {
		for _, ahead := range [][]byte{{0}, {137}, {71}, {137, 80}, {71, 73}, {255}} {
			b := slices.Concat(ahead, p.file)
			r := asSlow(t, b, len(ahead))
			if r.refused() != api.ErrForm {
				t.Error(ahead, r.refused())
			}
		}
	}
	// A PNG's beginning with a GIF's first byte, and the other way round.
	for _, b := range [][]byte{{71, 80, 78, 71, 13, 10, 26, 10}, {137, 73, 70, 56, 57, 97}} {
		if r := asSlow(t, b); r.refused() != api.ErrForm || r.moments[1].e != api.OK || r.moments[2].e != api.ErrForm {
			t.Error(b, r.moments)
		}
	}
}

// When each line is told, and each other thing is known, of two files whose bytes are counted by hand.
func TestP20_1ByteByByte(t *testing.T) {
	for _, one := range []struct {
		p      picture
		toldAt []int // how many bytes tell so many lines
		headAt int
	}{
		{greyPng(3, 2, true, 1, 2, 3, 4, 5, 6), []int{greyStart + 2, greyStart + 4, greyStart + 6, greyStart + 10}, 8 + 25},
		// The codes have 3 3 3 3 4 4 bits: one sample is in the first byte, three are in the second.
		{plainGif(1, 4, true, 0, 1, 2, 3), []int{plainStart + 2, plainStart + 4, plainStart + 4, plainStart + 4}, plainStart},
	} {
		f := New()
		lines := one.p.lines()
		for i, v := range one.p.file {
			before := f.Told()
			l, e := f.Push([]byte{v})
			told := 0
			for _, at := range one.toldAt {
				if at <= i+1 {
					told++
				}
			}
			h, known := f.Head()
			if e != api.OK || f.Told() != told || !sameLines(l, lines[before:told]) {
				t.Fatal(i, l, e, f.Told(), "not", told)
			}
			if known != (i+1 >= one.headAt) || known && h != one.p.raster.Head || f.Done() != (i+1 == len(one.p.file)) || f.Woven() != one.p.woven {
				t.Fatal(i, h, known, f.Done(), f.Woven())
			}
		}
	}
}

// Behind the end nothing comes but an error, which stays.
func TestP20_1BehindTheEnd(t *testing.T) {
	for _, p := range []picture{greyPng(2, 2, true, 1, 2, 3, 4), plainGif(2, 2, true, 0, 1, 2, 3)} {
		f := New()
		if l, e := f.Push(p.file); !sameLines(l, p.lines()) || e != api.OK || !f.Done() {
			t.Fatal(l, e, f.Done())
		}
		answers(t, f, nil, api.OK)
		if !f.Done() || f.Told() != len(p.lines()) {
			t.Fatal(f.Done(), f.Told())
		}
		for _, b := range [][]byte{{0}, nil, p.file, {137}, {71}, nil} {
			answers(t, f, b, api.ErrTrail)
			h, known := f.Head()
			if f.Done() || f.Told() != len(p.lines()) || f.Woven() != p.woven || !known || h != p.raster.Head {
				t.Fatal(b, f.Done(), f.Told(), f.Woven(), h, known)
			}
		}
		for v := range 256 {
			b := append(slices.Clone(p.file), byte(v))
			if r := asSlow(t, b, len(p.file)); r.refused() != api.ErrTrail {
				t.Fatal(v, r.refused())
			}
		}
	}
}

// Lines ahead of an error are told beside it; behind it nothing is, and what was known stays known.
func TestP20_1BehindAnError(t *testing.T) {
	grey := greyPng(2, 3, false, 1, 2, 3, 4, 5, 6)
	grey.file[greyStart+3] = 9 // the filter of the second line
	plain := plainGif(2, 3, false, 0, 1, 2, 3, 2, 1)
	plain.file[len(plain.file)-1] = 44
	for _, one := range []struct {
		p    picture
		told int
		e    api.Errno
	}{{grey, 1, api.ErrFilter}, {plain, 3, api.ErrOrder}} {
		f := New()
		l, e := f.Push(one.p.file)
		if !sameLines(l, one.p.lines()[:one.told]) || e != one.e {
			t.Fatal(l, e)
		}
		for _, b := range [][]byte{nil, {59}, {137}, {71}, {}, one.p.file} {
			h, known := f.Head()
			if f.Done() || f.Told() != one.told || f.Woven() != one.p.woven || !known || h != one.p.raster.Head {
				t.Fatal(f.Done(), f.Told(), f.Woven(), h, known)
			}
			answers(t, f, b, one.e)
		}
		asSlow(t, one.p.file, by(one.p.file, 9)...)
	}
}
