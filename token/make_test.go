package token

import (
	"bytes"
	"hash/crc32"
	"math/rand"
	"slices"
	"testing"

	"halftone/api"
)

const (
	mostData = 1 << 20
	mostSum  = 1<<32 - 1
)

// must is an answer that may not be an error.
func must[T any](v T, e api.Errno) T {
	if e != api.OK {
		panic(e)
	}
	return v
}

// some is n bytes.
func some(rnd *rand.Rand, n int) []byte {
	b := make([]byte, n)
	rnd.Read(b)
	return b
}

// high is a number's four bytes, the highest first.
func high(n uint32) []byte { return []byte{byte(n >> 24), byte(n >> 16), byte(n >> 8), byte(n)} }

// sealed is a text with its sum behind it, by the library.
func sealed(parts ...[]byte) []byte {
	text := slices.Concat(parts...)
	s := crc32.ChecksumIEEE(text)
	return append(text, byte(s), byte(s>>8), byte(s>>16), byte(s>>24))
}

// fields is a token's bytes by the chapter's words, whatever stands in its fields.
func fields(file byte, sum, n uint32, data []byte) []byte {
	return sealed([]byte{file}, high(sum), high(n), data)
}

// random is a token that may be, often one at its bounds.
func random(rnd *rand.Rand) api.Token {
	sums := []uint32{0, 1, mostSum, rnd.Uint32(), rnd.Uint32()}
	return api.Token{File: rnd.Intn(16), Sum: sums[rnd.Intn(len(sums))], Data: some(rnd, rnd.Intn([]int{1, 2, 40, 500}[rnd.Intn(4)]))}
}

// same asks whether two tokens are the same.
func same(a, b api.Token) bool {
	return a.File == b.File && a.Sum == b.Sum && bytes.Equal(a.Data, b.Data)
}

// writes holds a token's bytes.
func writes(t *testing.T, tok api.Token, want []byte) {
	t.Helper()
	if b, e := Write(tok); e != api.OK || !bytes.Equal(b, want) {
		t.Fatal(tok.File, tok.Sum, len(tok.Data), "is written as", len(b), "bytes, not", len(want), e)
	}
}

// reads holds which token bytes are.
func reads(t *testing.T, b []byte, want api.Token) {
	t.Helper()
	if tok, e := Read(b); e != api.OK || !same(tok, want) {
		t.Fatal(tok.File, tok.Sum, len(tok.Data), e, "not", want.File, want.Sum, len(want.Data))
	}
}

// isRefused holds with which error bytes are no token, and that none is told.
func isRefused(t *testing.T, b []byte, want api.Errno) {
	t.Helper()
	if tok, e := Read(b); e != want || tok.File != 0 || tok.Sum != 0 || len(tok.Data) != 0 {
		t.Fatal(tok.File, tok.Sum, len(tok.Data), e, "not", want)
	}
}

// stands holds what a store answers.
func stands(t *testing.T, s *Store, kept string, busy bool) {
	t.Helper()
	if string(s.Get()) != kept || s.Busy() != busy {
		t.Fatalf("%q %v, not %q %v", s.Get(), s.Busy(), kept, busy)
	}
}

// puts holds that bytes are under way.
func puts(t *testing.T, s *Store, b string) {
	t.Helper()
	if e := s.Put([]byte(b)); e != api.OK || !s.Busy() {
		t.Fatalf("%q: %v %v", b, e, s.Busy())
	}
}

// isBusy holds that no other bytes are taken.
func isBusy(t *testing.T, s *Store, b string) {
	t.Helper()
	if e := s.Put([]byte(b)); e != api.ErrBusy || !s.Busy() {
		t.Fatalf("%q: %v %v", b, e, s.Busy())
	}
}
