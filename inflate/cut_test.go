package inflate

import (
	"bytes"
	"math"
	"math/rand"
	"slices"
	"testing"

	"halftone/api"
)

// same holds two ways of cutting against each other.
func same(t *testing.T, limit int, whole []byte, parts ...[]byte) {
	t.Helper()
	want, e, d := all(limit, whole)
	got, f, g := all(limit, parts...)
	if !bytes.Equal(got, want) || e != f {
		t.Fatalf("%v and %d, not %v and %d", got, f, want, e)
	}
	stands(t, g, d.Done(), d.Rest(), d.Total())
}

// someBytes are packed ones, with others behind; some of them have faults, or end too early.
func someBytes(rnd *rand.Rand) []byte {
	b := some(rnd, 1+rnd.Intn(4)).Out()
	switch rnd.Intn(4) {
	case 0:
		return b[:rnd.Intn(len(b))]
	case 1:
		b[rnd.Intn(len(b))] ^= 1 << rnd.Intn(8)
	case 2:
		return append(b, 1, 2, 3, 4, 5)
	}
	return b
}

func TestP6_2EveryCut(t *testing.T) {
	rnd := rand.New(rand.NewSource(68))
	for range 30 {
		b := someBytes(rnd)
		limit := []int{math.MaxInt, 20, 100}[rnd.Intn(3)]
		for n := range len(b) + 1 {
			same(t, limit, b, b[:n], b[n:])
			same(t, limit, b, b[:n], nil, b[n:], nil)
		}
		same(t, limit, b, append([][]byte{nil}, single(b)...)...)
	}
}

func TestP6_2ManyCuts(t *testing.T) {
	rnd := rand.New(rand.NewSource(69))
	for range 500 {
		b := someBytes(rnd)
		var parts [][]byte
		for left := b; len(left) > 0; {
			n := rnd.Intn(min(len(left), 9) + 1)
			parts = append(parts, left[:n])
			left = left[n:]
		}
		same(t, math.MaxInt, b, parts...)
	}
}

func TestP6_2OneByOne(t *testing.T) {
	rnd := rand.New(rand.NewSource(70))
	for _, text := range texts(rnd) {
		b := lib(text, 6)
		same(t, math.MaxInt, b, single(b)...)
	}
}

func TestP6_3BehindTheEnd(t *testing.T) {
	rnd := rand.New(rand.NewSource(71))
	for range 100 {
		p := some(rnd, 1+rnd.Intn(3))
		var rest []byte
		text, e, d := all(math.MaxInt, append(p.Out(), 75, 4, 0))
		rest = append(rest, 75, 4, 0)
		if !bytes.Equal(text, p.text) || e != api.OK {
			t.Fatal(len(text), e)
		}
		for _, more := range [][]byte{{7}, nil, {1, 1, 0, 254, 255, 7}, {255, 255, 255}} {
			stands(t, d, true, rest, len(p.text))
			if b, e := d.Push(more); len(b) != 0 || e != api.OK {
				t.Fatal(b, e)
			}
			rest = append(rest, more...)
		}
		stands(t, d, true, rest, len(p.text))
	}
}

// Behind an error not even the bytes that would be an end are one.
func TestP6_3BehindAnError(t *testing.T) {
	rnd := rand.New(rand.NewSource(72))
	met := map[api.Errno]int{}
	for range 3000 {
		b := some(rnd, 1+rnd.Intn(3)).Out()
		b[rnd.Intn(len(b))] ^= 1 << rnd.Intn(8)
		text, e, d := all(100, b)
		if e == api.OK {
			continue
		}
		met[e]++
		for range 3 {
			more, f := d.Push([]byte{1, 1, 0, 254, 255, 7, 75, 4, 0})
			if len(more) != 0 || f != e {
				t.Fatal(more, f, e)
			}
			stands(t, d, false, nil, len(text))
		}
	}
	for _, e := range []api.Errno{api.ErrForm, api.ErrCode, api.ErrSymbol, api.ErrFar, api.ErrStored, api.ErrLong} {
		if met[e] == 0 {
			t.Error("never met", e)
		}
	}
}

// What is handed in stays as it was, its spare room too, and may change afterwards.
func TestP6_1WhatIsHandedIn(t *testing.T) {
	rnd := rand.New(rand.NewSource(73))
	for range 100 {
		b := append(some(rnd, 3).Out(), 9, 8, 7)
		want, _, w := all(math.MaxInt, b)
		d := New(math.MaxInt)
		var text []byte
		var answers, then [][]byte
		for i := 0; i < len(b); i += 5 {
			part := make([]byte, 0, 16)
			part = append(part, b[i:min(i+5, len(b))]...)
			was := slices.Clone(part[:16])
			told, e := d.Push(part)
			if e != api.OK || !slices.Equal(part[:16], was) {
				t.Fatal(e, part[:16], was)
			}
			text = append(text, told...)
			// Neither what was handed in nor what was answered is looked at again, nor changed.
			spoil(part)
			spoil(told)
			spoil(d.Rest())
			answers, then = append(answers, told), append(then, slices.Clone(told))
		}
		for i := range answers {
			if !bytes.Equal(answers[i], then[i]) {
				t.Fatal(answers[i], then[i])
			}
		}
		if !bytes.Equal(text, want) {
			t.Fatal(text, want)
		}
		stands(t, d, true, w.Rest(), len(want))
	}
}

// spoil changes bytes, and their spare room.
func spoil(b []byte) {
	b = b[:cap(b)]
	for i := range b {
		b[i] ^= 85
	}
}

// Decoders of their own don't depend on one another.
func TestP6_1TwoDecoders(t *testing.T) {
	rnd := rand.New(rand.NewSource(74))
	for range 50 {
		a, b := some(rnd, 3), some(rnd, 3)
		d, f := New(math.MaxInt), New(math.MaxInt)
		var told, also []byte
		x, y := a.Out(), b.Out()
		for i := range max(len(x), len(y)) {
			if i < len(x) {
				got, _ := d.Push(x[i : i+1])
				told = append(told, got...)
			}
			if i < len(y) {
				got, _ := f.Push(y[i : i+1])
				also = append(also, got...)
			}
		}
		if !bytes.Equal(told, a.text) || !bytes.Equal(also, b.text) || !d.Done() || !f.Done() {
			t.Fatal(len(told), len(also))
		}
	}
}
