package front

import (
	"math"
	"math/rand"
	"slices"
	"testing"

	"halftone/api"
)

// sizes that aren't allowed.
var wrongSizes = []int{0, -1, -16, api.MaxBody + 1, api.MaxBody * 2, math.MinInt, math.MaxInt}

// A size that isn't allowed is told ahead of what is wrong with the file.
func TestP20_1WrongSizes(t *testing.T) {
	p := greyPng(1, 2, false, 1, 2)
	for _, size := range wrongSizes {
		for _, b := range [][]byte{p.file, p.file[:20], nil, {1}, append(slices.Clone(p.file), 0)} {
			if l, e := Passes(b, size); e != api.ErrArg || len(l) != 0 {
				t.Error(size, l, e)
			}
		}
	}
}

// Of a file that is refused there is Check's error, and no pass.
func TestP20_1PassesRefused(t *testing.T) {
	p, g := greyPng(1, 2, false, 1, 2), plainGif(1, 2, false, 1, 2)
	spoilt := slices.Clone(p.file)
	spoilt[len(spoilt)-1] ^= 1
	for _, one := range []struct {
		b []byte
		e api.Errno
	}{
		{nil, api.ErrShort}, {[]byte{1}, api.ErrForm}, {p.file[:60], api.ErrShort}, {g.file[:len(g.file)-1], api.ErrShort},
		{append(slices.Clone(p.file), 0), api.ErrTrail}, {append(slices.Clone(g.file), 0), api.ErrTrail}, {spoilt, api.ErrSum},
	} {
		for _, size := range []int{1, 2, 50, api.MaxBody} {
			if l, e := Passes(one.b, size); e != one.e || len(l) != 0 {
				t.Error(size, l, e, "not", one.e)
			}
			if _, e := Check(one.b); e != one.e {
				t.Error(e, "not", one.e)
			}
		}
	}
}

// upTo is passes, each as often as it takes to have so many of them.
func upTo(pairs ...[2]int) (l []int) {
	for _, p := range pairs {
		l = append(l, slices.Repeat([]int{p[0]}, p[1]-len(l))...)
	}
	return l
}

// Passes of files whose bytes are counted by hand, by segments of one byte: the first segment that has another pass is the one behind the last byte of a line.
func TestP20_1PassesByHand(t *testing.T) {
	laced := greyPng(3, 2, true, 1, 2, 3, 4, 5, 6)
	plain := greyPng(3, 2, false, 1, 2, 3, 4, 5, 6)
	woven := plainGif(1, 4, true, 0, 1, 2, 3)
	rows := plainGif(1, 4, false, 0, 1, 2, 3)
	for _, one := range []struct {
		p    picture
		want []int
	}{
		// Lines of passes 1, 4, 6 and 7, of 2, 2, 2 and 4 bytes.
		{laced, upTo([2]int{1, greyStart + 2}, [2]int{4, greyStart + 4}, [2]int{6, greyStart + 6}, [2]int{7, greyStart + 10}, [2]int{8, len(laced.file)})},
		{plain, upTo([2]int{1, greyStart + 8}, [2]int{8, len(plain.file)})},
		// Lines of passes 1, 3, 4 and 4: the first one is told by the second byte of the blocks, all others by the fourth one.
		{woven, upTo([2]int{1, plainStart + 2}, [2]int{3, plainStart + 4}, [2]int{8, len(woven.file)})},
		{rows, upTo([2]int{1, plainStart + 4}, [2]int{8, len(rows.file)})},
	} {
		for size := 1; size <= api.MaxBody; size++ {
			var want []int
			for at := 0; at < len(one.want); at += size {
				want = append(want, one.want[at])
			}
			if got, e := Passes(one.p.file, size); e != api.OK || !slices.Equal(got, want) {
				t.Fatal(one.p.raster.Head, size, got, e, "not", want)
			}
		}
	}
}

// Of files by chance, by all sizes up to more than they have; one of them is a segment as great as the file, and of some no byte is left over.
func TestP20_1PassesOfAll(t *testing.T) {
	rnd := rand.New(rand.NewSource(221))
	whole, rest := 0, 0
	for i := range 32 {
		p := some(rnd, i, 1+rnd.Intn(10), 1+rnd.Intn(10))
		r := slow(p.file)
		for size := 1; size <= min(len(p.file)+1, api.MaxBody); size++ {
			passed(t, p.file, r, size)
			if len(p.file)%size == 0 {
				whole++
			} else {
				rest++
			}
		}
		passed(t, p.file, r, api.MaxBody)
	}
	if whole == 0 || rest == 0 {
		t.Error(whole, rest)
	}
}

// Segments ahead of the first line have its pass, those behind the last one 8, however long what stands there is; and passes never fall.
func TestP20_1PassesAheadAndBehind(t *testing.T) {
	rnd := rand.New(rand.NewSource(222))
	long := make([]byte, 3000)
	for _, laced := range []bool{false, true} {
		for _, p := range []picture{
			pngOf(rasterOf(rnd, api.Head{W: 20, H: 20, Color: 2, Depth: 8, Laced: laced}), pngHow{kind: 5, size: 100, aside: api.Chunk{Kind: "tEXt", Data: long}}),
			gifOf(20, 20, laced, tintsOf(16), numbers(rnd, 400, 16), gifHow{least: 4, size: 50, clear: -1, ahead: extension(long), behind: extension(long)}),
		} {
			last := 1
			if laced && p.woven {
				last = 4
			} else if laced {
				last = 7
			}
			for _, size := range []int{1, 10, 64, api.MaxBody} {
				l, e := Passes(p.file, size)
				n := (len(p.file) + size - 1) / size
				if e != api.OK || len(l) != n || !slices.IsSorted(l) || l[0] != 1 || l[n-1] != 8 {
					t.Fatal(laced, p.woven, size, l, e)
				}
				if l[2000/size] != 1 || l[(len(p.file)-2000)/size] != 8 {
					t.Fatal(laced, p.woven, size, l)
				}
				if size == 1 && !slices.Contains(l, last) {
					t.Fatal(laced, p.woven, last, l)
				}
			}
		}
	}
}

// extension is one of a GIF that says nothing.
func extension(text []byte) []byte {
	b := []byte{33, 254}
	for part := range slices.Chunk(text, 255) {
		b = append(append(b, byte(len(part))), part...)
	}
	return append(b, 0)
}

// Files that are as long as may be: the PNG's picture stands at the end, the GIF's at the beginning.
func TestP20_1PassesOfLongest(t *testing.T) {
	grey, plain := greyPng(1, 2, false, 1, 2), plainGif(1, 2, false, 1, 2)
	// Of segments of MaxBody - 1 bytes one byte is left over, which stands behind all lines; the last one of MaxBody has the whole picture.
	for _, one := range []struct {
		p          picture
		size, last int
	}{
		{padded(grey, api.MaxFile), 1, 8}, {padded(grey, api.MaxFile), api.MaxBody - 1, 8}, {padded(grey, api.MaxFile), api.MaxBody, 1},
		{stretched(plain, api.MaxFile), 1, 8}, {stretched(plain, api.MaxFile), api.MaxBody - 1, 8}, {stretched(plain, api.MaxFile), api.MaxBody, 8},
	} {
		l, e := Passes(one.p.file, one.size)
		n := (api.MaxFile + one.size - 1) / one.size
		if e != api.OK || len(l) != n || !slices.IsSorted(l) || l[0] != 1 || l[n-1] != one.last {
			t.Error(one.p.woven, one.size, len(l), e)
		}
	}
}
