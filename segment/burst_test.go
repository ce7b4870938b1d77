package segment

import (
	"math/rand"
	"slices"
	"testing"

	"halftone/api"
)

// turn is b with bits turned from the bit at on, the lowest of a byte first: those that are 1 in burst, as far as there are bits.
func turn(b []byte, at int, burst uint32) []byte {
	b = slices.Clone(b)
	for i := range min(32, 8*len(b)-at) {
		if burst>>i&1 == 1 {
			b[(at+i)/8] ^= 1 << ((at + i) % 8)
		}
	}
	return b
}

// bursts are ways to turn some bits of 32, the first one always: it alone, with one other, with all, with some.
func bursts(rnd *rand.Rand, more int) []uint32 {
	out := []uint32{1, 0xffffffff, 0xedb88321, 0x04c11db7, 0xff, 0xffff, 0x00ffffff, 0x01010101}
	for i := 1; i < 32; i++ {
		out = append(out, 1|1<<i)
	}
	for range more {
		out = append(out, 1|rnd.Uint32())
	}
	return out
}

// nobody holds that a message's bytes are read by nobody, wherever these of its bits are turned.
func nobody(t *testing.T, m api.Msg, bursts []uint32) {
	t.Helper()
	b := must(Write(m))
	for at := range 8 * len(b) {
		for _, burst := range bursts {
			isRefused(t, turn(b, at, burst), api.ErrSum)
		}
	}
	reads(t, b, m)
}

func TestP22_3EveryPlace(t *testing.T) {
	t.Parallel()
	rnd := rand.New(rand.NewSource(231))
	for _, kind := range every {
		nobody(t, plain(kind), bursts(rnd, 60))
		for range 6 {
			m := random(rnd, kind)
			m.Data = m.Data[:min(len(m.Data), 30)]
			nobody(t, m, bursts(rnd, 10))
		}
	}
}

// The shortest messages, of noughts, and the longest ones.
func TestP22_3Ends(t *testing.T) {
	t.Parallel()
	rnd := rand.New(rand.NewSource(232))
	for _, m := range []api.Msg{
		{Kind: api.KindAsk},
		{Kind: api.KindOffer, Size: 1, Body: 1},
		{Kind: api.KindData, Data: []byte{0}},
		{Kind: api.KindAck},
		{Kind: api.KindNo},
		{Kind: api.KindAsk, Boot: 1<<32 - 1, File: 15, Sum: 1<<32 - 1, At: 1 << 20},
		{Kind: api.KindOffer, Boot: 1<<32 - 1, File: 15, Sum: 1<<32 - 1, Size: 1 << 20, At: 1 << 20, Body: 1024},
		{Kind: api.KindAck, Index: top - 9, Ranges: [][2]int{{top - 7, top - 6}, {top - 5, top - 4}, {top - 3, top - 2}, {top - 1, top}}},
		{Kind: api.KindNo, Boot: 1<<32 - 1, File: 15, Code: 255},
	} {
		nobody(t, m, bursts(rnd, 60))
	}
	for _, data := range [][]byte{make([]byte, 1024), some(rnd, 1024)} {
		nobody(t, api.Msg{Kind: api.KindData, Index: top, Pass: 8, Data: data}, []uint32{1, 0xffffffff, 1 | rnd.Uint32(), 1<<31 | 1})
	}
}

// Turned so that the bytes would be another message's, but for their sum.
func TestP22_3Another(t *testing.T) {
	rnd := rand.New(rand.NewSource(233))
	for _, kind := range every {
		for range 200 {
			b := must(Write(random(rnd, kind)))
			for other := range 8 {
				if other != kind {
					isRefused(t, turn(b, 0, uint32(kind^other)), api.ErrSum)
				}
			}
			// The boot, a file's number, a piece of the data or of a range: any 32 bits of the text.
			at := rnd.Intn(8 * (len(b) - 4))
			isRefused(t, turn(b, at, rnd.Uint32()|1), api.ErrSum)
			// Within the sum's own bytes, all of them.
			isRefused(t, turn(b, 8*(len(b)-4), rnd.Uint32()|1), api.ErrSum)
			isRefused(t, turn(b, 8*(len(b)-4), 1<<rnd.Intn(32)), api.ErrSum)
		}
	}
}
