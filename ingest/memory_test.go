package ingest

import (
	"bytes"
	"math/rand"
	"slices"
	"sync"
	"testing"

	"halftone/api"
)

// roomy is a list with spare room behind it, filled with what must stay there.
func roomy[T any](l []T, v T) []T {
	return append(slices.Clone(l), slices.Repeat([]T{v}, 300)...)[:len(l)]
}

// whole is a copy of a list and its spare room.
func whole[T any](l []T) []T { return slices.Clone(l[:cap(l)]) }

// smear writes over a list, and over its spare room.
func smear[T any](l []T, v T) {
	l = l[:cap(l)]
	for i := range l {
		l[i] = v
	}
}

// withRoom is a raster whose lists have spare room.
func withRoom(r api.Raster) api.Raster {
	r.Tints, r.Alpha, r.Clear, r.Samples = roomy(r.Tints, api.Tint{R: 201, G: 202, B: 203}), roomy(r.Alpha, 204), roomy(r.Clear, 205), roomy(r.Samples, 206)
	return r
}

// all is a copy of a raster's lists, and of their spare room.
func all(r api.Raster) api.Raster {
	r.Tints, r.Alpha, r.Clear, r.Samples = whole(r.Tints), whole(r.Alpha), whole(r.Clear), whole(r.Samples)
	return r
}

// spoil writes over a raster's lists, and over their spare room.
func spoil(r api.Raster) {
	smear(r.Tints, api.Tint{R: 99, G: 98, B: 97})
	smear(r.Alpha, 96)
	smear(r.Clear, 95)
	smear(r.Samples, 0)
}

// stays writes a raster by a call: what is handed in stays as it was, its spare room too, and may be written over behind the call; so may what is answered.
func stays(t *testing.T, r api.Raster, write func(api.Raster) ([]byte, api.Errno)) {
	t.Helper()
	want, wrong := write(copied(r))
	want = bytes.Clone(want)
	in := withRoom(r)
	was := all(in)
	b, e := write(in)
	if e != wrong || !bytes.Equal(b, want) {
		t.Fatal(r.Head, e, "not", wrong)
	}
	if !sameRaster(all(in), was) {
		t.Fatal(r.Head, "is written on")
	}
	other, _ := write(in)
	smear(other, 77)
	if !sameRaster(all(in), was) || !bytes.Equal(b, want) {
		t.Fatal(r.Head, "shares memory with an answer, or one answer with another")
	}
	spoil(in)
	if !bytes.Equal(b, want) {
		t.Fatal(r.Head, "an answer shares memory with what came in")
	}
	if again, e := write(copied(r)); e != wrong || !bytes.Equal(again, want) {
		t.Fatal(r.Head, "was kept", e)
	}
}

func TestP21_1HandedIn(t *testing.T) {
	rnd := rand.New(rand.NewSource(371))
	var rasters []api.Raster
	for i := range len(kinds) * 4 {
		rasters = append(rasters, rasterOf(rnd, headOf(i, 1+rnd.Intn(9), 1+rnd.Intn(9), i%2 == 0), i%4 < 2))
	}
	for range 40 {
		n := 1 + rnd.Intn(256)
		rasters = append(rasters, listedOf(rnd, 1+rnd.Intn(9), 1+rnd.Intn(9), n%2 == 0, n, rnd.Intn(n+1)-1))
	}
	for _, f := range faults() {
		rasters = append(rasters, f.raster)
	}
	for _, r := range rasters {
		for _, size := range []int{1, 7, api.MaxFile} {
			stays(t, r, func(r api.Raster) ([]byte, api.Errno) { return Png(r, size%4, size%6, size) })
		}
		for _, size := range []int{1, 7, 255} {
			stays(t, r, func(r api.Raster) ([]byte, api.Errno) { return Gif(r, size%4, size) })
		}
	}
}

// Calls don't depend on one another, side by side neither.
func TestP21_1SideBySide(t *testing.T) {
	rnd := rand.New(rand.NewSource(372))
	var wait sync.WaitGroup
	for i := range 24 {
		r := listedOf(rnd, 1+rnd.Intn(30), 1+rnd.Intn(30), i%2 == 0, 200, i)
		png, gif := must(slowPng(r, i%4, i%6, 1+i)), must(slowGif(r, i%3, 1+i))
		wait.Add(1)
		go func() {
			defer wait.Done()
			for range 5 {
				a, e := Png(r, i%4, i%6, 1+i)
				b, wrong := Gif(r, i%3, 1+i)
				if e != api.OK || wrong != api.OK || !bytes.Equal(a, png) || !bytes.Equal(b, gif) {
					t.Error(i, e, wrong)
				}
			}
		}()
	}
	wait.Wait()
}
