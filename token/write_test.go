package token

import (
	"math"
	"math/rand"
	"testing"

	"halftone/api"
)

// TestP25_1Example is the chapter's.
func TestP25_1Example(t *testing.T) {
	writes(t, api.Token{File: 1, Sum: 2}, sealed([]byte{1, 0, 0, 0, 2, 0, 0, 0, 0}))
	s := New()
	puts(t, s, "x")
	s.Crash(false)
	stands(t, s, "", false)
}

// TestP25_1Fields holds the bytes one by one.
func TestP25_1Fields(t *testing.T) {
	b := must(Write(api.Token{File: 9, Sum: 0x01020304, Data: []byte("hello")}))
	want := "\x09\x01\x02\x03\x04\x00\x00\x00\x05hello" + "\xce\xc7\xb6\x7e"
	if string(b) != want {
		t.Fatalf("%q", b)
	}
}

// TestP25_1Noughts holds the bytes of a token of noughts, whose sum isn't 0.
func TestP25_1Noughts(t *testing.T) {
	if b := must(Write(api.Token{})); string(b) != "\x00\x00\x00\x00\x00\x00\x00\x00\x00\xae\x14\x09\xe6" {
		t.Fatal(b)
	}
}

// TestP25_1Files holds which files may be.
func TestP25_1Files(t *testing.T) {
	for file := range 16 {
		tok := api.Token{File: file, Sum: 7, Data: []byte("ab")}
		writes(t, tok, fields(byte(file), 7, 2, []byte("ab")))
	}
	for _, file := range []int{-1, -2, 16, 17, 255, 256, 257, -255, -256, 1 << 32, 1<<32 + 1, math.MaxInt, math.MinInt} {
		if b, e := Write(api.Token{File: file, Sum: 7, Data: []byte("ab")}); e != api.ErrArg || len(b) != 0 {
			t.Error(file, b, e)
		}
	}
}

// TestP25_1Sums holds that any sum may be.
func TestP25_1Sums(t *testing.T) {
	for _, sum := range []uint32{0, 1, 2, 255, 256, 0x01020304, 0x80000000, mostSum - 1, mostSum} {
		writes(t, api.Token{File: 3, Sum: sum, Data: []byte{9}}, fields(3, sum, 1, []byte{9}))
	}
}

// TestP25_1Data holds tokens of any number of bytes, and that more than the greatest may not be.
func TestP25_1Data(t *testing.T) {
	rnd := rand.New(rand.NewSource(251))
	for _, n := range []int{0, 1, 2, 3, 4, 255, 256, 257, 65535, 65536, mostData - 1, mostData} {
		data := some(rnd, n)
		writes(t, api.Token{File: 15, Sum: mostSum, Data: data}, fields(15, mostSum, uint32(n), data))
	}
	for _, n := range []int{mostData + 1, mostData + 2, 2 * mostData} {
		for _, file := range []int{0, 15, 16} {
			if b, e := Write(api.Token{File: file, Data: make([]byte, n)}); e != api.ErrArg || len(b) != 0 {
				t.Error(n, file, len(b), e)
			}
		}
	}
}

// TestP25_1Drawn holds drawn tokens' bytes against the chapter's words.
func TestP25_1Drawn(t *testing.T) {
	rnd := rand.New(rand.NewSource(252))
	for range 3000 {
		tok := random(rnd)
		writes(t, tok, fields(byte(tok.File), tok.Sum, uint32(len(tok.Data)), tok.Data))
	}
}
