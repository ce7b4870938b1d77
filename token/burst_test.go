package token

import (
	"math/rand"
	"slices"
	"testing"

	"halftone/api"
)

// turn is b with bits turned from the bit at on, the lowest of a byte first: those that are 1 in burst, as far as there are bits.
func turn(b []byte, at int, burst uint32) []byte {
	b = slices.Clone(b)
	for i := range min(32, 8*len(b)-at) {
		if burst>>i&1 == 1 {
			b[(at+i)/8] ^= 1 << ((at + i) % 8)
		}
	}
	return b
}

// bursts are ways to turn some bits of 32, the first one always: it alone, with one other, with all, with some.
func bursts(rnd *rand.Rand, more int) []uint32 {
	out := []uint32{1, 0xffffffff, 0xedb88321, 0x04c11db7, 0xff, 0xffff, 0x00ffffff, 0x01010101}
	for i := 1; i < 32; i++ {
		out = append(out, 1|1<<i)
	}
	for range more {
		out = append(out, 1|rnd.Uint32())
	}
	return out
}

// nobody holds that a token's bytes are read by nobody, wherever these of its bits are turned.
func nobody(t *testing.T, tok api.Token, bursts []uint32) {
	t.Helper()
	b := must(Write(tok))
	for at := range 8 * len(b) {
		for _, burst := range bursts {
			isRefused(t, turn(b, at, burst), api.ErrSum)
		}
	}
	reads(t, b, tok)
}

// TestP25_2Turned holds it at every place, the sum's own bytes among them.
func TestP25_2Turned(t *testing.T) {
	t.Parallel()
	rnd := rand.New(rand.NewSource(257))
	for _, tok := range []api.Token{
		{},
		{File: 1, Sum: 2},
		{File: 15, Sum: mostSum, Data: []byte{255}},
		{File: 8, Sum: 1 << 31, Data: []byte{0}},
		{File: 3, Sum: 0x01020304, Data: make([]byte, 40)},
	} {
		nobody(t, tok, bursts(rnd, 200))
	}
	for range 12 {
		tok := random(rnd)
		tok.Data = tok.Data[:min(len(tok.Data), 60)]
		nobody(t, tok, bursts(rnd, 20))
	}
}

// TestP25_2TurnedLong holds it for more bytes.
func TestP25_2TurnedLong(t *testing.T) {
	t.Parallel()
	rnd := rand.New(rand.NewSource(258))
	nobody(t, api.Token{File: 7, Sum: rnd.Uint32(), Data: some(rnd, 1500)}, []uint32{1, 0xffffffff, 1 | rnd.Uint32(), 1<<31 | 1})
}
