package token

import (
	"bytes"
	"math/rand"
	"slices"
	"strconv"
	"sync"
	"testing"

	"halftone/api"
)

// roomy is bytes with spare room behind them, filled with what must stay there.
func roomy(b []byte) []byte {
	return append(slices.Clone(b), bytes.Repeat([]byte{77}, 300)...)[:len(b)]
}

// whole is a copy of bytes and their spare room.
func whole(b []byte) []byte { return slices.Clone(b[:cap(b)]) }

// smear writes over bytes, and over their spare room.
func smear(b []byte) {
	b = b[:cap(b)]
	for i := range b {
		b[i] = 99
	}
}

// TestP25_1WriteMemory holds that a token's bytes stay as they were, and that what it is written as doesn't hang on them.
func TestP25_1WriteMemory(t *testing.T) {
	rnd := rand.New(rand.NewSource(262))
	for range 300 {
		tok := random(rnd)
		tok.Data = roomy(tok.Data)
		was := whole(tok.Data)
		want := fields(byte(tok.File), tok.Sum, uint32(len(tok.Data)), tok.Data)
		b, c := must(Write(tok)), must(Write(tok))
		if !bytes.Equal(whole(tok.Data), was) {
			t.Fatal("changed")
		}
		smear(tok.Data)
		smear(c)
		if !bytes.Equal(b, want) {
			t.Fatal("shared")
		}
		smear(b)
	}
}

// TestP25_1ReadMemory holds that bytes that are read stay as they were, and that the token doesn't hang on them.
func TestP25_1ReadMemory(t *testing.T) {
	rnd := rand.New(rand.NewSource(263))
	for range 300 {
		tok := random(rnd)
		b := roomy(must(Write(tok)))
		was := whole(b)
		x, y := must(Read(b)), must(Read(b))
		smear(y.Data)
		if !bytes.Equal(whole(b), was) {
			t.Fatal("changed")
		}
		smear(b)
		if !same(x, tok) {
			t.Fatal("shared")
		}
		isRefused(t, b, api.ErrSum)
	}
}

// TestP25_1StoreMemory holds that a store shares nothing with what is put, nor with what it tells.
func TestP25_1StoreMemory(t *testing.T) {
	s := New()
	for _, text := range []string{"abcdefgh", "x", "01234567890123456789"} {
		b := roomy([]byte(text))
		was := whole(b)
		if e := s.Put(b); e != api.OK || !bytes.Equal(whole(b), was) {
			t.Fatal(e, b)
		}
		smear(b)
		if e := s.Put(b); e != api.ErrBusy {
			t.Fatal(e)
		}
		smear(s.Get())
		s.Settle()
		stands(t, s, text, false)
		got := s.Get()
		smear(s.Get())
		stands(t, s, text, false)
		smear(b)
		if string(got) != text {
			t.Fatalf("%q", got)
		}
		smear(got)
		stands(t, s, text, false)
		puts(t, s, "-")
		stands(t, s, text, true)
		s.Crash(false)
		stands(t, s, text, false)
	}
}

// TestP25_1Apart holds that stores don't depend on one another, side by side too.
func TestP25_1Apart(t *testing.T) {
	var all sync.WaitGroup
	for k := range 8 {
		all.Go(func() {
			s, kept := New(), ""
			for i := range 300 {
				next := strconv.Itoa(1000*k + i)
				if e := s.Put([]byte(next)); e != api.OK {
					t.Error(e)
				}
				s.Crash(i%3 == k%3)
				if i%3 == k%3 {
					kept = next
				}
				if string(s.Get()) != kept {
					t.Errorf("%q, not %q", s.Get(), kept)
				}
				tok := api.Token{File: k, Sum: uint32(i), Data: []byte(next)}
				if x, e := Read(must(Write(tok))); e != api.OK || !same(x, tok) {
					t.Error(x, e)
				}
			}
		})
	}
	all.Wait()
}
