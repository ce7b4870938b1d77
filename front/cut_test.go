package front

import (
	"math/rand"
	"slices"
	"testing"

	"halftone/api"
)

// cases are files: right ones of both kinds, such as are cut off, such as have a byte that is another one, and such as are no pictures.
func cases() (list [][]byte) {
	rnd := rand.New(rand.NewSource(201))
	for i := range 16 {
		b := some(rnd, i, 1+rnd.Intn(6), 1+rnd.Intn(6)).file
		other := slices.Clone(b)
		other[rnd.Intn(len(b))] ^= 1 << rnd.Intn(8)
		list = append(list, b, b[:len(b)-1], b[:rnd.Intn(len(b))], append(slices.Clone(b), 0), other)
	}
	return append(list, nil, []byte{0}, []byte("no picture"), []byte{137}, []byte{71}, []byte("GIF"), []byte("GIF87a"), []byte("\x89PNG\r\n\x1a\n"))
}

// Every file, in two pieces, in three of which one may be empty, in pieces of each size, and with empty ones ahead, between and behind: every push answers as if all had come byte by byte.
func TestP20_1EveryCut(t *testing.T) {
	for _, b := range cases() {
		r := slow(b)
		asRead(t, b, r)
		asRead(t, b, r, twice(b, nil)...)
		checked(t, b, r)
		for i := range len(b) + 1 {
			asRead(t, b, r, i)
			asRead(t, b, r, i, i)
			asRead(t, b, r, i, (i+len(b))/2)
			if i > 0 {
				asRead(t, b, r, by(b, i)...)
			}
			if i > 0 && i < 9 {
				asRead(t, b, r, twice(b, by(b, i))...)
			}
		}
	}
}

// Every beginning of a file is a file that is cut short: nothing is wrong with it, and it isn't Done.
func TestP20_1CutShort(t *testing.T) {
	rnd := rand.New(rand.NewSource(202))
	for i := range 40 {
		p := some(rnd, i, 1+rnd.Intn(5), 1+rnd.Intn(5))
		for n := range len(p.file) {
			f := New()
			if _, e := f.Push(p.file[:n]); e != api.OK || f.Done() {
				t.Fatal(n, e, f.Done())
			}
			if m, e := Check(p.file[:n]); e != api.ErrShort || m.W != 0 || m.H != 0 || len(m.Pix) != 0 {
				t.Fatal(n, m, e)
			}
			if l, e := Lines(p.file[:n]); e != api.ErrShort || len(l) != 0 {
				t.Fatal(n, l, e)
			}
			if l, e := Passes(p.file[:n], 16); e != api.ErrShort || len(l) != 0 {
				t.Fatal(n, l, e)
			}
		}
	}
}

// Every byte of a file is another one.
func TestP20_1EveryByteOther(t *testing.T) {
	met := map[api.Errno]int{}
	for _, p := range []picture{
		greyPng(3, 2, true, 1, 2, 3, 4, 5, 6),
		plainGif(2, 3, true, 0, 1, 2, 3, 2, 1),
		gifOf(2, 2, false, tintsOf(2), []int{0, 1, 1, 0}, gifHow{least: 2, size: 9, clear: 1, ahead: []byte{33, 254, 1, 7, 0}, behind: []byte{33, 249, 0}}),
	} {
		for i := range p.file {
			for v := range 256 {
				if v%5 != 0 && v != 33 && v != 44 && v != 59 && v != 71 && v != 137 {
					continue
				}
				b := slices.Clone(p.file)
				b[i] = byte(v)
				met[asSlow(t, b, i, i+1).refused()]++
			}
		}
	}
	for _, e := range []api.Errno{api.OK, api.ErrShort, api.ErrForm, api.ErrSum, api.ErrOrder, api.ErrHead, api.ErrIndex, api.ErrMissing} {
		if met[e] == 0 {
			t.Error("no file with", e)
		}
	}
}

// Files by chance of which some bytes are other ones, left out, or put in, and in pieces by chance.
func TestP20_1Spoilt(t *testing.T) {
	rnd := rand.New(rand.NewSource(203))
	met := map[api.Errno]int{}
	for i := range 1500 {
		b := some(rnd, i, 1+rnd.Intn(4), 1+rnd.Intn(4)).file
		for range rnd.Intn(3) {
			at := rnd.Intn(len(b))
			switch rnd.Intn(4) {
			case 0:
				b[at] = byte(rnd.Intn(256))
			case 1:
				b[at] ^= 1 << rnd.Intn(8)
			case 2:
				b = slices.Delete(b, at, at+1)
			case 3:
				b = slices.Insert(b, at, byte(rnd.Intn(256)))
			}
		}
		var cuts []int
		for range rnd.Intn(20) {
			cuts = append(cuts, rnd.Intn(len(b)+1))
		}
		slices.Sort(cuts)
		met[asSlow(t, b, cuts...).refused()]++
	}
	for _, e := range []api.Errno{api.OK, api.ErrShort, api.ErrForm, api.ErrSum, api.ErrLong, api.ErrOrder, api.ErrTrail} {
		if met[e] == 0 {
			t.Error("no file with", e)
		}
	}
}

// Any bytes, alone and behind either of the first ones.
func TestP20_1AnyBytes(t *testing.T) {
	rnd := rand.New(rand.NewSource(204))
	for range 3000 {
		b := make([]byte, rnd.Intn(30))
		rnd.Read(b)
		switch rnd.Intn(5) {
		case 0:
			b = append([]byte{137}, b...)
		case 1:
			b = append([]byte{71}, b...)
		case 2:
			b = append([]byte("\x89PNG\r\n\x1a\n"), b...)
		case 3:
			b = append([]byte("GIF89a"), b...)
		}
		asSlow(t, b, by(b, 1+rnd.Intn(9))...)
	}
}
