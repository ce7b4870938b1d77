package lzw

import (
	"bytes"
	"math/rand"
	"slices"
	"testing"

	"halftone/api"
)

// rows are codes' bytes: right ones, cut off ones, wrong ones, with bytes behind, of each least.
func rows(rnd *rand.Rand, least int) [][]byte {
	roots := 1 << least
	long, _ := Pack(some(rnd, 200, roots), least, 0)
	few, _ := Pack(some(rnd, 300, 2), least, 0)
	return [][]byte{
		nil,
		coded(least, roots, 1, roots+2, 1, roots+1).Out(),
		coded(least, roots, 1, roots+2, roots+3, roots, roots, 0, roots+2, roots+1).Out(),
		append(coded(least, roots, 1, 1, roots+1).Out(), 1, 2, 3),
		coded(least, 1, 1, 1, 1, roots+6, 0, 0, 0).Out(),
		coded(least, roots, roots+2, 0, 0, 0).Out(),
		long, few, long[:len(long)/2], slices.Concat(few, long),
		some(rnd, 50, 256),
	}
}

func TestP9_2EveryCut(t *testing.T) {
	rnd := rand.New(rand.NewSource(97))
	for least := 2; least <= 8; least++ {
		for _, b := range rows(rnd, least) {
			for _, limit := range []int{0, 3, 150, 1000} {
				want := slow(b, least, limit)
				holds(t, all(least, limit, b), want, least, limit)
				holds(t, all(least, limit, single(b)...), want, least, limit)
				for i := range len(b) + 1 {
					holds(t, all(least, limit, b[:i], b[i:]), want, least, limit, i)
					holds(t, all(least, limit, b[:i], nil, b[i:], nil), want, least, limit, i)
				}
			}
		}
	}
}

// Cut into three and into parts of any size, with tables that get full.
func TestP9_2ManyParts(t *testing.T) {
	rnd := rand.New(rand.NewSource(98))
	for least := 2; least <= 8; least++ {
		for _, text := range texts(rnd, least) {
			b, _ := Pack(text, least, 10)
			b = append(b, 9, 8)
			want := result{told: text, done: true, rest: []byte{9, 8}}
			holds(t, all(least, len(text), single(b)...), want, least)
			for _, most := range []int{2, 7, 300, 5000} {
				var parts [][]byte
				for left := b; len(left) > 0; {
					n := min(rnd.Intn(most+1), len(left))
					parts = append(parts, left[:n])
					left = left[n:]
				}
				holds(t, all(least, len(text), parts...), want, least, most)
			}
		}
	}
}

// A code is told as soon as all its bits are there, and not ahead of that: after every byte as much is told as its bytes alone tell.
func TestP9_2AsItComes(t *testing.T) {
	rnd := rand.New(rand.NewSource(99))
	for least := 2; least <= 8; least++ {
		for _, b := range rows(rnd, least) {
			for _, limit := range []int{0, 5, 1000} {
				d := New(least, limit)
				var told []byte
				for i := range b {
					want := slow(b[:i+1], least, limit)
					more, e := d.Push(b[i : i+1])
					told = append(told, more...)
					holds(t, result{told, e, d.Done(), d.Rest()}, want, least, limit, i)
				}
			}
		}
	}
}

// What is handed in stays as it was, its spare room too, and is not kept.
func TestP9_1Handed(t *testing.T) {
	rnd := rand.New(rand.NewSource(100))
	text := some(rnd, 6000, 4)
	room := append(slices.Clone(text), 200, 201, 202)
	before := slices.Clone(room)
	b, e := Pack(room[:len(text)], 2, 3)
	if e != api.OK || !bytes.Equal(room, before) {
		t.Fatal("changed by Pack", e)
	}
	clear(room)
	if again, _ := Pack(text, 2, 3); !bytes.Equal(again, b) {
		t.Fatal("kept by Pack")
	}

	full := append(slices.Clone(b), 7, 7, 7)
	for _, n := range []int{1, 2, 50, len(full)} {
		d := New(2, len(text))
		var told []byte
		for at := 0; at < len(full); at += n {
			part := full[at:min(at+n, len(full))]
			room := append(slices.Clone(part), 11, 12, 13)
			before := slices.Clone(room)
			more, e := d.Push(room[:len(part)])
			if e != api.OK || !bytes.Equal(room, before) {
				t.Fatal("changed by Push", e)
			}
			clear(room)
			told = append(told, more...)
			clear(more[:cap(more)])
		}
		if !bytes.Equal(told, text) || !bytes.Equal(d.Rest(), []byte{7, 7, 7}) {
			t.Fatal("kept by Push", n)
		}
		rest := d.Rest()
		clear(rest)
		if !bytes.Equal(d.Rest(), []byte{7, 7, 7}) {
			t.Fatal("Rest is shared")
		}
		d.Push([]byte{1})
		d.Push([]byte{2})
		if !bytes.Equal(rest, []byte{0, 0, 0}) || !bytes.Equal(d.Rest(), []byte{7, 7, 7, 1, 2}) {
			t.Fatal("Rest is shared")
		}
	}
}

// Decoders of their own don't depend on one another.
func TestP9_1TwoDecoders(t *testing.T) {
	rnd := rand.New(rand.NewSource(101))
	one, two := some(rnd, 500, 4), some(rnd, 500, 200)
	a, _ := Pack(one, 2, 0)
	b, _ := Pack(two, 8, 0)
	d, f := New(2, 500), New(8, 500)
	var first, second []byte
	for i := range max(len(a), len(b)) {
		if i < len(a) {
			told, _ := d.Push(a[i : i+1])
			first = append(first, told...)
		}
		if i < len(b) {
			told, _ := f.Push(b[i : i+1])
			second = append(second, told...)
		}
	}
	if !bytes.Equal(first, one) || !bytes.Equal(second, two) || !d.Done() || !f.Done() {
		t.Error(len(first), len(second))
	}
}
