package session

import (
	"bytes"
	"slices"
	"sync"
	"testing"

	"halftone/api"
	"halftone/token"
)

// roomy is a copy with spare room behind it that isn't zero.
func roomy(b []byte) []byte {
	r := append(slices.Clone(b), 0xa5, 0xa5, 0xa5, 0xa5)
	return r[:len(b)]
}

// unchanged holds that bytes handed in, and their spare room, are as they were.
func unchanged(t *testing.T, r, b []byte) {
	t.Helper()
	if !bytes.Equal(r, b) || !bytes.Equal(r[:len(b)+4][len(b):], []byte{0xa5, 0xa5, 0xa5, 0xa5}) {
		t.Fatal("changed", r[:len(b)+4])
	}
}

// spoil writes over bytes and their spare room.
func spoil(b []byte) {
	b = b[:cap(b)]
	for i := range b {
		b[i] = 0xee
	}
}

// Messages that were handed in, and those that were told, may be written over: a whole transfer goes on as if they weren't.
func TestP26_1HandedInAndTold(t *testing.T) {
	b := small()
	files := [][]byte{roomy(b)}
	s := api.Setup{Body: 7, Window: 5, First: 1, Most: 1, Every: 2}
	v := serves(t, s, files...)
	unchanged(t, files[0], b)
	spoil(files[0])
	store := holding(0, sum(b), b[:9])
	c := started(t, store, s, 1, 0)
	give := func(m []byte, recv func([]byte) [][]byte) [][]byte {
		t.Helper()
		r := roomy(m)
		list := recv(r)
		unchanged(t, r, m)
		spoil(r)
		var kept [][]byte
		for _, a := range list {
			kept = append(kept, slices.Clone(a))
			spoil(a)
		}
		for i := range list[:cap(list)] {
			list[:cap(list)][i] = nil
		}
		return kept
	}
	ticks := func(side interface{ Tick() [][]byte }) [][]byte {
		return give(nil, func([]byte) [][]byte { return side.Tick() })
	}
	for _, m := range ticks(c) {
		give(m, v.Recv)
	}
	for now := 0; v.Busy(); now++ {
		if now > 100 {
			t.Fatal("no end")
		}
		sent := ticks(v)
		slices.Reverse(sent)
		for _, m := range sent {
			for _, a := range give(m, c.Recv) {
				if now%3 == 0 {
					give(a, v.Recv)
				}
			}
			shows(t, c, b[:c.Offset()])
			spoil(store.Get())
		}
	}
	complete(t, c, b)
	store.Settle()
	keeps(t, store, 0, sum(b), b, false)
}

// A refusal is told anew each time.
func TestP26_1RefusalsToldAnew(t *testing.T) {
	v := serves(t, plain())
	for range 3 {
		list := v.Recv(ask(1, 2, 0, 0))
		says(t, list, no(1, 2, 16))
		spoil(list[0])
		list[0] = nil
	}
}

// What is sent again is new memory, too, and so is each message of one answer.
func TestP26_1SentAnew(t *testing.T) {
	b := small()
	v := serves(t, plain(), b)
	v.Recv(ask(1, 0, 0, 0))
	want := [][]byte{offerOf(1, 0, b, 0, 20), data(1, 1, 1, b[:20]), data(1, 2, 1, b[20:40])}
	first := v.Tick()
	says(t, first, want...)
	for i := range first {
		spoil(first[i])
		for _, other := range first[i+1:] {
			if other[0] == 0xee {
				t.Fatal("shared")
			}
		}
	}
	says(t, v.Tick(), want...)
	c, _ := asking(t, plain(), 1, 0)
	for range 2 {
		asked := c.Tick()
		says(t, asked, ask(1, 0, 0, 0))
		spoil(asked[0])
	}
}

// A client doesn't hold what its store has: the token's bytes may be others behind the start.
func TestP26_1StoreWrittenOver(t *testing.T) {
	b := small()
	store := holding(0, sum(b), b[:40])
	c := started(t, store, plain(), 1, 0)
	store.Put(must(token.Write(api.Token{File: 3, Sum: 3, Data: make([]byte, 60)})))
	store.Settle()
	says(t, c.Recv(offerOf(1, 0, b, 40, 1024)), ack(1, 1))
	shows(t, c, b[:40])
	says(t, c.Recv(dataOf(1, 1, b, 40, 1024)), ack(1, 2))
	complete(t, c, b)
	keeps(t, store, 0, sum(b), b, true)
}

// Sides of their own don't hang on one another: two clients with stores of their own, told one after the other, and servers of the same files.
func TestP26_1Apart(t *testing.T) {
	b, other := small(), greyPng(2, 2, false, 9, 8, 7, 6)
	files := [][]byte{b, other}
	v, w := serves(t, plain(), files...), serves(t, plain(), files...)
	c, one := asking(t, plain(), 1, 0)
	d, two := asking(t, plain(), 5, 1)
	for range 50 {
		for _, m := range c.Tick() {
			v.Recv(m)
		}
		for _, m := range d.Tick() {
			w.Recv(m)
		}
		mine, theirs := v.Tick(), w.Tick()
		for _, m := range theirs {
			says(t, c.Recv(m))
		}
		for _, m := range mine {
			says(t, d.Recv(m))
			for _, a := range c.Recv(m) {
				v.Recv(a)
			}
		}
		for _, m := range theirs {
			for _, a := range d.Recv(m) {
				w.Recv(a)
			}
		}
	}
	complete(t, c, b)
	complete(t, d, other)
	keeps(t, one, 0, sum(b), b, false)
	keeps(t, two, 1, sum(other), other, false)
}

// Side by side, each on its own goroutine, of the same bytes handed in.
func TestP26_1SideBySide(t *testing.T) {
	b := small()
	files := [][]byte{b}
	var all sync.WaitGroup
	for i := range 8 {
		all.Go(func() {
			s := plain()
			s.Body = 1 + i
			v, _ := NewServer(files, s)
			store := token.New()
			c, _ := NewClient(store, s)
			c.Start(uint32(i), 0)
			for range 300 {
				for _, m := range c.Tick() {
					v.Recv(m)
				}
				for _, m := range v.Tick() {
					for _, a := range c.Recv(m) {
						v.Recv(a)
					}
				}
			}
			if c.State() != api.Done || c.Offset() != len(b) {
				t.Error(i, c.State(), c.Offset())
			}
		})
	}
	all.Wait()
}
