package session

import (
	"math"
	"testing"

	"halftone/api"
	"halftone/token"
)

func TestP26_1StartTwice(t *testing.T) {
	b := small()
	c, store := asking(t, plain(), 3, 0)
	again := func() {
		t.Helper()
		for _, file := range []int{0, 1, 15, 16, -1, math.MaxInt, math.MinInt} {
			if e := c.Start(4, file); e != api.ErrBusy {
				t.Fatal(file, e)
			}
		}
	}
	again()
	says(t, c.Tick(), ask(3, 0, 0, 0))
	again()
	says(t, c.Tick(), ask(3, 0, 0, 0))
	says(t, c.Recv(offerOf(3, 0, b, 0, len(b))), ack(3, 1))
	again()
	says(t, c.Recv(data(3, 1, 1, b)), ack(3, 2))
	again()
	stands(t, c, api.Done, 0, 0, len(b), 0)
	keeps(t, store, 0, sum(b), b, false)
	c, _ = asking(t, plain(), 3, 0)
	says(t, c.Recv(no(3, 0, 9)))
	again()
	stands(t, c, api.Refused, 9, 0, 0, 0)
	c, _ = asking(t, plain(), 3, 0)
	says(t, c.Recv(offerOf(3, 0, []byte{1}, 0, 1)), ack(3, 1))
	says(t, c.Recv(data(3, 1, 1, []byte{1})))
	again()
	stands(t, c, api.Broken, 0, 0, 1, 0)
}

func TestP26_1FileThatMayNotBe(t *testing.T) {
	c := with(t, token.New(), plain())
	for _, file := range []int{-1, 16, 17, 256, math.MinInt, math.MaxInt, -1 << 31, 1 << 32, -16} {
		if e := c.Start(1, file); e != api.ErrArg {
			t.Error(file, e)
		}
		stands(t, c, api.Off, 0, 0, 0, 0)
		says(t, c.Tick())
	}
	// And then it may be started.
	if e := c.Start(2, 15); e != api.OK {
		t.Error(e)
	}
	says(t, c.Tick(), ask(2, 15, 0, 0))
}

func TestP26_1EveryFileAndBoot(t *testing.T) {
	for file := range 16 {
		for _, boot := range []uint32{0, 1, 1 << 31, math.MaxUint32} {
			c, _ := asking(t, plain(), boot, file)
			says(t, c.Tick(), ask(boot, file, 0, 0))
		}
	}
}

// What a client asks with, by what is in its store.
func TestP26_1AskByTheStore(t *testing.T) {
	b := small()
	turned := must(token.Write(api.Token{File: 2, Sum: 7, Data: b[:9]}))
	turned[len(turned)/2] ^= 4
	raw := func(bytes []byte) *token.Store {
		s := token.New()
		s.Put(bytes)
		s.Settle()
		return s
	}
	for i, one := range []struct {
		store *token.Store
		want  []byte
	}{
		{token.New(), ask(1, 2, 0, 0)},
		{holding(2, 7, b[:9]), ask(1, 2, 7, 9)},
		{holding(2, 0, b[:9]), ask(1, 2, 0, 9)},
		{holding(2, math.MaxUint32, nil), ask(1, 2, math.MaxUint32, 0)},
		{holding(2, 7, make([]byte, 1<<20)), ask(1, 2, 7, 1<<20)},
		{holding(3, 7, b[:9]), ask(1, 2, 0, 0)},
		{holding(0, 7, b[:9]), ask(1, 2, 0, 0)},
		{raw(turned), ask(1, 2, 0, 0)},
		{raw([]byte{2, 0, 0, 0}), ask(1, 2, 0, 0)},
		{raw(nil), ask(1, 2, 0, 0)},
		{raw(b), ask(1, 2, 0, 0)},
	} {
		before := one.store.Get()
		c := started(t, one.store, plain(), 1, 2)
		for tick := range 9 {
			if got := c.Tick(); tick == 0 || tick == 1 || tick == 3 || tick == 7 {
				says(t, got, one.want)
			} else {
				says(t, got)
			}
		}
		stands(t, c, api.Asking, 0, 0, 0, 0)
		if c.Canvas() != nil || string(one.store.Get()) != string(before) || one.store.Busy() {
			t.Error(i, "changed")
		}
	}
}

// What is under way when a client is started is kept then, and used.
func TestP26_1UnderWayAtTheStart(t *testing.T) {
	b := small()
	store := holding(2, 7, b[:9])
	store.Put(must(token.Write(api.Token{File: 2, Sum: 8, Data: b[:12]})))
	c := started(t, store, plain(), 1, 2)
	keeps(t, store, 2, 8, b[:12], false)
	says(t, c.Tick(), ask(1, 2, 8, 12))
	store = holding(2, 7, b[:9])
	store.Put(nil)
	c = started(t, store, plain(), 1, 2)
	empty(t, store)
	says(t, c.Tick(), ask(1, 2, 0, 0))
}

// What comes into the store behind the start is no matter for the ask.
func TestP26_1StoreBehindTheStart(t *testing.T) {
	b := small()
	store := holding(0, 7, b[:9])
	c := started(t, store, plain(), 1, 0)
	store.Put(must(token.Write(api.Token{File: 0, Sum: 8, Data: b[:12]})))
	says(t, c.Tick(), ask(1, 0, 7, 9))
	keeps(t, store, 0, 8, b[:12], false)
	says(t, c.Tick(), ask(1, 0, 7, 9))
}

// The gaps between asks: First, and each twice the one ahead of it, up to Most.
func TestP26_1AskGaps(t *testing.T) {
	for _, one := range []struct {
		first, most int
		at          []int
	}{
		{1, 1, []int{1, 2, 3, 4, 5, 6, 7}},
		{1, 2, []int{1, 2, 4, 6, 8, 10}},
		{1, 4, []int{1, 2, 4, 8, 12, 16, 20}},
		{1, 65536, []int{1, 2, 4, 8, 16, 32, 64, 128, 256, 512, 1024}},
		{2, 3, []int{1, 3, 6, 9, 12}},
		{3, 7, []int{1, 4, 10, 17, 24, 31}},
		{5, 5, []int{1, 6, 11, 16}},
		{3, 65536, []int{1, 4, 10, 22, 46}},
	} {
		s := plain()
		s.First, s.Most = one.first, one.most
		c, _ := asking(t, s, 9, 4)
		next := 0
		for tick := 1; tick <= one.at[len(one.at)-1]; tick++ {
			got := c.Tick()
			if tick != one.at[next] {
				says(t, got)
				continue
			}
			says(t, got, ask(9, 4, 0, 0))
			next++
		}
	}
}

// The greatest gap there is.
func TestP26_1GreatestGap(t *testing.T) {
	s := plain()
	s.First, s.Most = 65536, 65536
	c, _ := asking(t, s, 9, 4)
	for tick := range 2*65536 + 2 {
		if got := c.Tick(); len(got) != 0 != (tick%65536 == 0) {
			t.Fatal(tick, len(got))
		}
	}
}

// Nothing is sent by a client that isn't Asking.
func TestP26_1TickInOtherStates(t *testing.T) {
	b := small()
	still := func(c *Client) {
		t.Helper()
		for range 20 {
			says(t, c.Tick())
		}
	}
	still(with(t, token.New(), plain()))
	c, _ := asking(t, plain(), 3, 0)
	c.Tick()
	says(t, c.Recv(offerOf(3, 0, b, 0, len(b))), ack(3, 1))
	still(c)
	says(t, c.Recv(data(3, 1, 1, b)), ack(3, 2))
	still(c)
	c, _ = asking(t, plain(), 3, 0)
	says(t, c.Recv(no(3, 0, 9)))
	still(c)
	c, _ = asking(t, plain(), 3, 0)
	c.Recv(offerOf(3, 0, []byte{1}, 0, 1))
	says(t, c.Recv(data(3, 1, 1, []byte{1})))
	still(c)
	stands(t, c, api.Broken, 0, 0, 1, 0)
}

// Each Start, Recv and Tick settles the store first, whatever it answers; no other call does.
func TestP26_1Settles(t *testing.T) {
	b := small()
	store := token.New()
	c := with(t, store, plain())
	k := 0
	settles := func(want bool, call func()) {
		t.Helper()
		k++
		store.Put([]byte{byte(k)})
		call()
		if store.Busy() == want {
			t.Fatal(k, "under way:", store.Busy())
		}
		store.Crash(false)
		if got := store.Get(); want && (len(got) != 1 || got[0] != byte(k)) {
			t.Fatal(k, "kept", got)
		}
	}
	every := func() {
		t.Helper()
		settles(true, func() { c.Tick() })
		settles(true, func() { c.Start(1, 99) })
		settles(true, func() { c.Recv(nil) })
		settles(true, func() { c.Recv(ask(1, 0, 0, 0)) })
		settles(true, func() { c.Recv(offerOf(8, 0, b, 0, len(b))) })
		settles(false, func() {
			c.State()
			c.Code()
			c.From()
			c.Offset()
			c.Held()
			c.Canvas()
		})
	}
	every()
	settles(true, func() { c.Start(1, 0) })
	every()
	settles(true, func() { c.Start(1, 0) })
	settles(true, func() { c.Recv(offerOf(1, 0, b, 0, len(b))) })
	every()
	store.Put([]byte("x"))
	c.Recv(data(1, 1, 1, b))
	if string(store.Get()) != "x" || !store.Busy() {
		t.Fatal(store.Get(), store.Busy())
	}
	c.Tick()
	keeps(t, store, 0, sum(b), b, false)
	every()
	if c.State() != api.Done {
		t.Fatal(c.State())
	}
	c = with(t, store, plain())
	c.Start(1, 0)
	settles(true, func() { c.Recv(no(1, 0, 2)) })
	every()
	if c.State() != api.Refused {
		t.Fatal(c.State())
	}
	c = with(t, store, plain())
	c.Start(1, 0)
	c.Recv(offerOf(1, 0, []byte{1}, 0, 1))
	settles(true, func() { c.Recv(data(1, 1, 1, []byte{1})) })
	every()
	if c.State() != api.Broken {
		t.Fatal(c.State())
	}
}
