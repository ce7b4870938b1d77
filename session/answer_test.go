package session

import (
	"math"
	"math/rand"
	"slices"
	"testing"

	"halftone/api"
	"halftone/token"
)

// The state Off: everything is answered nothing, of whatever boot.
func TestP26_1Off(t *testing.T) {
	b := small()
	store := token.New()
	c := with(t, store, plain())
	for _, boot := range []uint32{0, 1, math.MaxUint32} {
		for _, m := range [][]byte{offerOf(boot, 0, b, 0, 20), no(boot, 0, 16), data(boot, 1, 1, b[:20]), ack(boot, 1), ask(boot, 0, 0, 0)} {
			says(t, c.Recv(m))
			stands(t, c, api.Off, 0, 0, 0, 0)
		}
	}
	if c.Canvas() != nil {
		t.Error("a canvas")
	}
	empty(t, store)
}

// Asking: what is answered nothing, and changes nothing.
func TestP26_1AskingStill(t *testing.T) {
	b := small()
	for _, held := range []int{0, 30} {
		store := token.New()
		if held > 0 {
			store = holding(4, sum(b), b[:held])
		}
		c := started(t, store, plain(), 8, 4)
		turned := offerOf(8, 4, b, 0, 20)
		turned[9] ^= 2
		for _, m := range [][]byte{
			nil, {}, {5}, turned, offerOf(8, 4, b, 0, 20)[1:], append(no(8, 4, 16), 0),
			// Another boot, or another file.
			offerOf(7, 4, b, 0, 20), offerOf(9, 4, b, 0, 20), offerOf(0, 4, b, 0, 20), offerOf(8, 3, b, 0, 20), offerOf(8, 5, b, 0, 20), offerOf(8, 0, b, 0, 20),
			no(7, 4, 16), no(9, 4, 16), no(8, 3, 16), no(8, 0, 16), no(8, 15, 16),
			// An offer from elsewhere on, or of another sum.
			offerOf(8, 4, b, 1, 20), offerOf(8, 4, b, 29, 20), offerOf(8, 4, b, 31, 20), offerOf(8, 4, b, len(b), 20),
			offer(8, 4, sum(b)+1, len(b), 30, 20), offer(8, 4, 0, len(b), 30, 20), offer(8, 4, 0, len(b), 1, 20),
			// What is none of these.
			data(8, 1, 1, b[:20]), data(8, 0, 1, b[:20]), ack(8, 0), ack(8, 1), ask(8, 4, 0, 0), ask(8, 4, sum(b), 30),
		} {
			says(t, c.Recv(m))
			stands(t, c, api.Asking, 0, 0, 0, 0)
			if c.Canvas() != nil {
				t.Fatal("a canvas")
			}
		}
		if held > 0 {
			says(t, c.Tick(), ask(8, 4, sum(b), 30))
			keeps(t, store, 4, sum(b), b[:held], false)
		} else {
			says(t, c.Tick(), ask(8, 4, 0, 0))
			empty(t, store)
		}
	}
}

func TestP26_1Refused(t *testing.T) {
	b := small()
	for _, code := range []int{0, 1, 2, 16, 255} {
		for file := range 16 {
			store := holding(file, sum(b), b[:40])
			c := started(t, store, plain(), 8, file)
			if code%2 == 0 {
				c.Tick()
			}
			says(t, c.Recv(no(8, file, code)))
			stands(t, c, api.Refused, code, 0, 0, 0)
			for _, m := range [][]byte{no(8, file, (code+1)%256), offerOf(8, file, b, 0, 20), offerOf(8, file, b, 40, 20), data(8, 1, 1, b[:20]), ack(8, 1), nil} {
				says(t, c.Recv(m))
				stands(t, c, api.Refused, code, 0, 0, 0)
			}
			if c.Canvas() != nil {
				t.Fatal("a canvas")
			}
			keeps(t, store, file, sum(b), b[:40], false)
		}
	}
}

// An offer from the beginning on: the offer itself is the item that has come.
func TestP26_1OfferFromTheBeginning(t *testing.T) {
	b := small()
	for _, ticked := range []bool{true, false} {
		c, store := asking(t, plain(), 8, 4)
		if ticked {
			c.Tick()
		}
		says(t, c.Recv(offerOf(8, 4, b, 0, 20)), ack(8, 1))
		stands(t, c, api.Getting, 0, 0, 0, 0)
		if c.Canvas() != nil {
			t.Fatal("a canvas")
		}
		empty(t, store)
	}
}

// An offer from where the token ends: its bytes are there, with what they tell.
func TestP26_1OfferBehindTheToken(t *testing.T) {
	b := small()
	for n := range b {
		if n == 0 {
			continue
		}
		store := holding(4, sum(b), b[:n])
		c := started(t, store, plain(), 8, 4)
		says(t, c.Recv(offerOf(8, 4, b, n, 20)), ack(8, 1))
		stands(t, c, api.Getting, 0, n, n, 0)
		shows(t, c, b[:n])
		if n >= smallHead != (c.Canvas() != nil) {
			t.Fatal(n, c.Canvas())
		}
		keeps(t, store, 4, sum(b), b[:n], false)
		// What is put next has all bytes.
		for i := 1; i <= (len(b)-n+19)/20; i++ {
			says(t, c.Recv(dataOf(8, i, b, n, 20)), ack(8, i+1))
		}
		stands(t, c, api.Done, 0, n, len(b), 0)
		shows(t, c, b)
		keeps(t, store, 4, sum(b), b, true)
	}
}

// A token of the whole file: with the offer all has come.
func TestP26_1OfferAtTheEnd(t *testing.T) {
	for _, b := range [][]byte{small(), someGif(rand.New(rand.NewSource(262)), 5, 4)} {
		store := holding(4, sum(b), b)
		c := started(t, store, plain(), 8, 4)
		says(t, c.Recv(offerOf(8, 4, b, len(b), 20)), ack(8, 1))
		stands(t, c, api.Done, 0, len(b), len(b), 0)
		if !c.Canvas().Full() {
			t.Fatal("not full")
		}
		shows(t, c, b)
		// It is put once more, as it is Done now.
		keeps(t, store, 4, sum(b), b, true)
		says(t, c.Recv(offerOf(8, 4, b, len(b), 20)), ack(8, 1))
		keeps(t, store, 4, sum(b), b, false)
	}
}

// A token of all bytes that aren't a file's whose sum it has, or are no file's.
func TestP26_1OfferAtTheEndOfNoFile(t *testing.T) {
	b := small()
	other := slices.Clone(b)
	other[0] = 1
	for _, one := range []struct {
		data []byte
		sum  uint32
		size int
	}{
		{b, sum(b) + 1, len(b)},                                      // another sum
		{b[:50], sum(b[:50]), 50},                                    // not Done
		{other, sum(other), len(b)},                                  // an error
		{append(slices.Clone(b), 0), sum(append(b, 0)), len(b) + 1},  // one behind the end
		{other[:1], sum(b), len(b)},                                  // an error, and more to come
		{append(slices.Clone(b), 0), sum(append(b, 0)), len(b) + 99}, // likewise
	} {
		store := holding(4, one.sum, one.data)
		c := started(t, store, plain(), 8, 4)
		n := len(one.data)
		says(t, c.Recv(offer(8, 4, one.sum, one.size, n, 20)))
		stands(t, c, api.Broken, 0, n, n, 0)
		shows(t, c, one.data)
		keeps(t, store, 4, one.sum, one.data, false)
		says(t, c.Recv(offer(8, 4, one.sum, one.size, n, 20)))
		says(t, c.Recv(data(8, 1, 1, b[:20])))
		stands(t, c, api.Broken, 0, n, n, 0)
	}
}

// P26.3: with a token of another file, or of other bytes, all comes from the beginning on.
func TestP26_3TokenNotUsed(t *testing.T) {
	b, other := small(), greyPng(3, 2, true, 1, 2, 3, 4, 5, 6)
	v := serves(t, plain(), b, other)
	for boot, store := range []*token.Store{
		holding(1, sum(other), other[:50]), holding(0, sum(other), other[:50]), holding(0, sum(b)^1, b[:50]),
		holding(0, sum(b[:50]), b[:50]), holding(0, 0, nil), token.New(), holding(15, sum(b), b[:50]),
		holding(0, sum(b), append(slices.Clone(b), 9)),
	} {
		c := started(t, store, plain(), uint32(boot+1), 0)
		ends(t, v, c)
		stands(t, c, api.Done, 0, 0, len(b), 0)
		shows(t, c, b)
		keeps(t, store, 0, sum(b), b, true)
	}
}

// An offer from the beginning on is taken though the ask was from elsewhere on: the token isn't used, be its sum the offer's or not.
func TestP26_3OfferFromTheBeginning(t *testing.T) {
	b := small()
	for _, s := range []uint32{sum(b), sum(b) + 1} {
		for _, n := range []int{1, 40, len(b)} {
			store := holding(4, s, b[:n])
			c := started(t, store, plain(), 8, 4)
			says(t, c.Recv(offerOf(8, 4, b, 0, 20)), ack(8, 1))
			stands(t, c, api.Getting, 0, 0, 0, 0)
			if c.Canvas() != nil {
				t.Fatal("a canvas")
			}
			keeps(t, store, 4, s, b[:n], false)
			for i := 1; i <= (len(b)+19)/20; i++ {
				says(t, c.Recv(dataOf(8, i, b, 0, 20)), ack(8, i+1))
			}
			stands(t, c, api.Done, 0, 0, len(b), 0)
			shows(t, c, b)
			keeps(t, store, 4, sum(b), b, true)
		}
	}
}

// A token without bytes: the ask has its sum; any offer from the beginning on is taken.
func TestP26_3TokenOfNoBytes(t *testing.T) {
	b := small()
	for _, s := range []uint32{sum(b), 5} {
		c := started(t, holding(4, s, nil), plain(), 8, 4)
		says(t, c.Tick(), ask(8, 4, s, 0))
		says(t, c.Recv(offerOf(8, 4, b, 0, len(b))), ack(8, 1))
		says(t, c.Recv(data(8, 1, 1, b)), ack(8, 2))
		stands(t, c, api.Done, 0, 0, len(b), 0)
	}
}
