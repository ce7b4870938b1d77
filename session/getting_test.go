package session

import (
	"math"
	"math/rand"
	"slices"
	"testing"

	"halftone/api"
	"halftone/canvas"
	"halftone/token"
)

// getting is a client that gets a file from its beginning on.
func getting(t *testing.T, s api.Setup, b []byte, body int) (*Client, *token.Store) {
	t.Helper()
	c, store := asking(t, s, 8, 4)
	says(t, c.Recv(offerOf(8, 4, b, 0, body)), ack(8, 1))
	return c, store
}

// The setup of which no token is put on the way.
func seldom() api.Setup { return api.Setup{Body: 20, Window: 4, First: 1, Most: 4, Every: 1 << 20} }

// Getting, and Done: what is answered nothing.
func TestP26_1GettingStill(t *testing.T) {
	b := small()
	n := (len(b) + 19) / 20 // segments
	last := len(b) - (n-1)*20
	if last < 2 || last > 18 {
		t.Fatal("the last segment has", last)
	}
	still := func(c *Client, state, offset, held int) {
		t.Helper()
		turned := dataOf(8, 1, b, 0, 20)
		turned[3] ^= 1
		for _, m := range [][]byte{
			nil, {3}, turned, dataOf(8, 1, b, 0, 20)[1:],
			dataOf(7, 1, b, 0, 20), dataOf(9, 1, b, 0, 20), dataOf(0, 1, b, 0, 20), offerOf(7, 4, b, 0, 20), offerOf(9, 4, b, 0, 20),
			// There is no such item.
			data(8, 0, 1, b[:20]), data(8, n+1, 1, b[:20]), data(8, n+1, 1, b[:1]), data(8, n+2, 1, b[:1]), data(8, math.MaxInt32, 1, b[:20]), data(8, 1<<30, 1, b[:last]),
			// A segment has not as many bytes.
			data(8, 1, 1, b[:19]), data(8, 1, 1, b[:21]), data(8, 1, 1, b[:1]), data(8, 1, 1, b[:last]), data(8, n-1, 1, b[:last]),
			data(8, n, 1, b[:last-1]), data(8, n, 1, b[:last+1]), data(8, n, 1, b[:20]), data(8, 1, 1, make([]byte, 1024)),
			// What isn't for a client that gets.
			no(8, 4, 16), no(8, 0, 0), ack(8, 1), ack(8, 9), ask(8, 4, 0, 0),
		} {
			says(t, c.Recv(m))
			stands(t, c, state, 0, 0, offset, held)
		}
		shows(t, c, b[:offset])
	}
	c, store := getting(t, seldom(), b, 20)
	still(c, api.Getting, 0, 0)
	says(t, c.Recv(dataOf(8, 1, b, 0, 20)), ack(8, 2))
	still(c, api.Getting, 20, 0)
	says(t, c.Recv(dataOf(8, 3, b, 0, 20)), ack(8, 2, [2]int{3, 4}))
	still(c, api.Getting, 20, 1)
	says(t, c.Recv(dataOf(8, 2, b, 0, 20)), ack(8, 4))
	still(c, api.Getting, 60, 0)
	empty(t, store)
	for i := 4; i <= n; i++ {
		says(t, c.Recv(dataOf(8, i, b, 0, 20)), ack(8, i+1))
	}
	keeps(t, store, 4, sum(b), b, true)
	still(c, api.Done, len(b), 0)
	keeps(t, store, 4, sum(b), b, false)
}

// An offer, whatever it says beside its boot, is answered by an ack, and is no matter else; so are items that came already.
func TestP26_1OffersAndItemsAgain(t *testing.T) {
	b := small()
	n := (len(b) + 19) / 20
	c, _ := getting(t, seldom(), b, 20)
	again := func(want []byte, from int) {
		t.Helper()
		got := [2]int{c.State(), c.Offset()}
		for _, m := range [][]byte{
			offerOf(8, 4, b, 0, 20), offerOf(8, 4, b, 5, 7), offerOf(8, 3, b, 0, 20), offer(8, 15, 0, 1, 1, 1), offer(8, 4, 9, 1<<20, 0, 1024),
		} {
			says(t, c.Recv(m), want)
		}
		for i := 1; i < from; i++ {
			says(t, c.Recv(dataOf(8, i, b, 0, 20)), want)
			// With other bytes, too: those with which it came first stay.
			says(t, c.Recv(data(8, i, 8, make([]byte, len(b[(i-1)*20:min(i*20, len(b))])))), want)
		}
		if got != [2]int{c.State(), c.Offset()} {
			t.Fatal(c.State(), c.Offset(), "not", got)
		}
		shows(t, c, b[:c.Offset()])
	}
	again(ack(8, 1), 1)
	for i := 1; i <= n; i++ {
		says(t, c.Recv(dataOf(8, i, b, 0, 20)), ack(8, i+1))
		again(ack(8, i+1), i+1)
	}
	stands(t, c, api.Done, 0, 0, len(b), 0)
}

// Items in whatever order: those beyond the window don't come, and those that are held are told by ranges, four at most.
func TestP26_1ItemsOutOfOrder(t *testing.T) {
	b := small()
	s := seldom()
	s.Window = 12
	c, _ := getting(t, s, b, 5)
	item := func(i int) []byte { return dataOf(8, i, b, 0, 5) }
	says(t, c.Recv(item(13)), ack(8, 1))
	says(t, c.Recv(item(12)), ack(8, 1, [2]int{12, 13}))
	says(t, c.Recv(item(3)), ack(8, 1, [2]int{3, 4}, [2]int{12, 13}))
	says(t, c.Recv(item(3)), ack(8, 1, [2]int{3, 4}, [2]int{12, 13}))
	says(t, c.Recv(item(4)), ack(8, 1, [2]int{3, 5}, [2]int{12, 13}))
	says(t, c.Recv(item(6)), ack(8, 1, [2]int{3, 5}, [2]int{6, 7}, [2]int{12, 13}))
	says(t, c.Recv(item(10)), ack(8, 1, [2]int{3, 5}, [2]int{6, 7}, [2]int{10, 11}, [2]int{12, 13}))
	says(t, c.Recv(item(8)), ack(8, 1, [2]int{3, 5}, [2]int{6, 7}, [2]int{8, 9}, [2]int{10, 11}))
	stands(t, c, api.Getting, 0, 0, 0, 6)
	says(t, c.Recv(item(1)), ack(8, 2, [2]int{3, 5}, [2]int{6, 7}, [2]int{8, 9}, [2]int{10, 11}))
	stands(t, c, api.Getting, 0, 0, 5, 6)
	says(t, c.Recv(item(2)), ack(8, 5, [2]int{6, 7}, [2]int{8, 9}, [2]int{10, 11}, [2]int{12, 13}))
	stands(t, c, api.Getting, 0, 0, 20, 4)
	shows(t, c, b[:20])
	for _, i := range []int{9, 7, 5, 11} {
		c.Recv(item(i))
	}
	stands(t, c, api.Getting, 0, 0, 60, 0)
	shows(t, c, b[:60])
}

// The window is the client's, the body the offer's, whatever the setup's is.
func TestP26_1WindowAndBody(t *testing.T) {
	b := small()
	for window := 1; window <= 64; window *= 2 {
		for _, body := range []int{1, 6, 1024} {
			s := seldom()
			s.Window, s.Body = window, 3
			c, _ := getting(t, s, b, body)
			n := (len(b) + body - 1) / body
			for i := n; i >= 1; i-- {
				before := c.Held()
				c.Recv(dataOf(8, i, b, 0, body))
				if came := c.Held() > before || c.Offset() > 0; came != (i < 1+window) {
					t.Fatal("window", window, "body", body, "item", i, "came:", came)
				}
			}
			if c.Held() >= window {
				t.Fatal(c.Held(), "are held of a window of", window)
			}
		}
	}
}

// From, Offset, and the canvas, byte by byte.
func TestP26_1ByteByByte(t *testing.T) {
	b := small()
	c, _ := getting(t, seldom(), b, 1)
	for i := range b {
		if known := c.Canvas() != nil; known != (i >= smallHead) {
			t.Fatal(i, known)
		}
		if i >= smallHead {
			lines := 0
			for _, at := range smallTold {
				if i >= at {
					lines++
				}
			}
			if got := c.Canvas().Count(); got != []int{0, 1, 2, 3, 6}[lines] {
				t.Fatal(i, got)
			}
		}
		shows(t, c, b[:i])
		stands(t, c, api.Getting, 0, 0, i, 0)
		says(t, c.Recv(data(8, i+1, 0, b[i:i+1])), ack(8, i+2))
	}
	stands(t, c, api.Done, 0, 0, len(b), 0)
	if !c.Canvas().Full() {
		t.Error("not full")
	}
}

// Bytes that have an error: Broken at once, and nothing is answered or put, but the lines ahead of the error are shown.
func TestP26_1BrokenByAnError(t *testing.T) {
	b := small()
	b[greyStart+2] = 9 // the second line's filter
	for _, body := range []int{1, 10, greyStart, greyStart + 3, len(b)} {
		s := seldom()
		s.Every = 1
		c, store := getting(t, s, b, body)
		at := (greyStart + 2) / body // the segment ahead of that of the error
		for i := 1; i <= at; i++ {
			says(t, c.Recv(dataOf(8, i, b, 0, body)), ack(8, i+1))
		}
		store.Settle()
		kept := store.Get()
		end := min((at+1)*body, len(b))
		for range 3 {
			says(t, c.Recv(dataOf(8, at+1, b, 0, body)))
			stands(t, c, api.Broken, 0, 0, end, 0)
			shows(t, c, b[:end])
			if c.Canvas().Count() != 1 {
				t.Fatal(c.Canvas().Count())
			}
		}
		says(t, c.Recv(offerOf(8, 4, b, 0, body)))
		says(t, c.Recv(data(8, at+2, 1, make([]byte, body))))
		stands(t, c, api.Broken, 0, 0, end, 0)
		if store.Busy() || string(store.Get()) != string(kept) {
			t.Fatal("put")
		}
	}
	// By the first byte.
	c, store := getting(t, seldom(), []byte{1, 2, 3}, 1)
	says(t, c.Recv(data(8, 3, 1, []byte{3})), ack(8, 1, [2]int{3, 4}))
	says(t, c.Recv(data(8, 1, 1, []byte{1})))
	stands(t, c, api.Broken, 0, 0, 1, 1)
	if c.Canvas() != nil {
		t.Error("a canvas")
	}
	empty(t, store)
}

// All items have come, and the file isn't Done, or its sum isn't the offer's.
func TestP26_1BrokenAtTheEnd(t *testing.T) {
	b := small()
	for _, one := range []struct {
		data []byte
		sum  uint32
		want int
	}{
		{b, sum(b), api.Done}, {b, sum(b) ^ 1, api.Broken}, {b, 0, api.Broken}, {b[:len(b)-1], sum(b[:len(b)-1]), api.Broken},
		{b[:40], sum(b[:40]), api.Broken}, {b[:1], sum(b[:1]), api.Broken}, {append(slices.Clone(b), 7), sum(append(slices.Clone(b), 7)), api.Broken},
	} {
		for _, body := range []int{1, 9, 1024} {
			s := seldom()
			s.Window = 64
			c, store := asking(t, s, 8, 4)
			says(t, c.Recv(offer(8, 4, one.sum, len(one.data), 0, body)), ack(8, 1))
			n := (len(one.data) + body - 1) / body
			for i := 1; i < n; i++ {
				says(t, c.Recv(dataOf(8, i, one.data, 0, body)), ack(8, i+1))
			}
			last := dataOf(8, n, one.data, 0, body)
			if one.want == api.Done {
				says(t, c.Recv(last), ack(8, n+1))
				keeps(t, store, 4, one.sum, one.data, true)
			} else {
				says(t, c.Recv(last))
				empty(t, store)
			}
			stands(t, c, one.want, 0, 0, len(one.data), 0)
			shows(t, c, one.data)
		}
	}
}

// A file of which all lines are shown isn't Done ahead of its end.
func TestP26_1NotDoneAheadOfTheEnd(t *testing.T) {
	b := small()
	c, store := getting(t, seldom(), b, len(b)-1)
	says(t, c.Recv(dataOf(8, 1, b, 0, len(b)-1)), ack(8, 2))
	if !c.Canvas().Full() {
		t.Error("not full")
	}
	stands(t, c, api.Getting, 0, 0, len(b)-1, 0)
	empty(t, store)
	says(t, c.Recv(dataOf(8, 2, b, 0, len(b)-1)), ack(8, 3))
	stands(t, c, api.Done, 0, 0, len(b), 0)
}

// When a token is put, and which: behind Every segments in order, and when it is Done.
func TestP26_1Every(t *testing.T) {
	b := small()
	for at := range len(b) + 1 {
		for _, every := range []int{1, 2, 3, 5, 100} {
			if at%7 != 0 && every != 3 {
				continue
			}
			s := seldom()
			s.Every = every
			store := holding(4, sum(b), b[:at])
			c := started(t, store, s, 8, 4)
			says(t, c.Recv(offerOf(8, 4, b, at, 10)), ack(8, 1))
			n := (len(b) - at + 9) / 10
			if n == 0 {
				keeps(t, store, 4, sum(b), b, true)
			} else {
				keeps(t, store, 4, sum(b), b[:at], false)
			}
			kept := at
			for i := 1; i <= n; i++ {
				says(t, c.Recv(dataOf(8, i, b, at, 10)), ack(8, i+1))
				put := i%every == 0 || i == n
				if put {
					kept = min(at+10*i, len(b))
				}
				keeps(t, store, 4, sum(b), b[:kept], put)
				// Nothing that comes again lets it be put again.
				says(t, c.Recv(dataOf(8, i, b, at, 10)), ack(8, i+1))
				says(t, c.Recv(offerOf(8, 4, b, at, 10)), ack(8, i+1))
				keeps(t, store, 4, sum(b), b[:kept], false)
			}
		}
	}
}

// Segments that come in order at once count all; those that are held don't, and the count begins anew when the token is put.
func TestP26_1EveryByLeaps(t *testing.T) {
	b := small()
	s := seldom()
	s.Every, s.Window = 4, 64
	c, store := getting(t, s, b, 2)
	item := func(i int) { c.Recv(dataOf(8, i, b, 0, 2)) }
	for _, i := range []int{1, 2, 3, 5, 6, 7, 8, 9, 10, 12, 13} {
		item(i)
		empty(t, store)
	}
	item(4) // ten are in order
	keeps(t, store, 4, sum(b), b[:20], true)
	item(14)
	keeps(t, store, 4, sum(b), b[:20], false)
	item(11) // four more
	keeps(t, store, 4, sum(b), b[:28], true)
	for _, i := range []int{15, 16, 17} {
		item(i)
		keeps(t, store, 4, sum(b), b[:28], false)
	}
	item(18)
	keeps(t, store, 4, sum(b), b[:36], true)
}

// What was under way is kept, when the next call comes, and a new token stands behind it.
func TestP26_1TokenBehindToken(t *testing.T) {
	b := small()
	s := seldom()
	s.Every = 1
	c, store := getting(t, s, b, 10)
	c.Recv(dataOf(8, 1, b, 0, 10))
	c.Recv(dataOf(8, 2, b, 0, 10))
	if !store.Busy() {
		t.Fatal("not under way")
	}
	store.Crash(false)
	keeps(t, store, 4, sum(b), b[:10], false)
	c.Recv(dataOf(8, 3, b, 0, 10))
	store.Crash(true)
	keeps(t, store, 4, sum(b), b[:30], false)
}

// A canvas that was told is one of its own.
func TestP26_1CanvasOfItsOwn(t *testing.T) {
	b := small()
	c, _ := getting(t, seldom(), b, greyStart+4)
	c.Recv(dataOf(8, 1, b, 0, greyStart+4))
	first := c.Canvas()
	if e := first.Lay(api.Line{Spots: []api.Spot{{X: 1, Y: 1}}, Cols: []api.Color{{R: 1}}}); e != api.OK {
		t.Fatal(e)
	}
	shows(t, c, b[:greyStart+4])
	second := c.Canvas()
	says(t, c.Recv(dataOf(8, 2, b, 0, greyStart+4)), ack(8, 3))
	shows(t, c, b)
	if first.Count() != 3 || second.Count() != 2 {
		t.Error(first.Count(), second.Count())
	}
}

// The colours of a canvas that is told are the client's own, known zeros among them.
func TestP26_1CanvasOfZeros(t *testing.T) {
	r := rand.New(rand.NewSource(263))
	for range 30 {
		b := some(r)
		c, _ := getting(t, seldom(), b, len(b)/2+1)
		c.Recv(dataOf(8, 1, b, 0, len(b)/2+1))
		shows(t, c, b[:len(b)/2+1])
	}
	zero := like(must(canvas.New(2, 2)))
	if zero.Count() != 0 {
		t.Error(zero.Count())
	}
	zero.Lay(api.Line{Spots: []api.Spot{{X: 1, Y: 0}}, Cols: []api.Color{{}}})
	if got := like(zero); !alike(got, zero) {
		t.Error(got)
	}
}
