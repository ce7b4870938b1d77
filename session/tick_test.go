package session

import (
	"bytes"
	"math/rand"
	"slices"
	"testing"

	"halftone/api"
	"halftone/front"
)

// passAhead is the pass of the first line that so many bytes of a file don't tell, 8, if they tell all.
func passAhead(b []byte, n int) int {
	lines := must(front.Lines(b))
	ahead, _ := front.New().Push(b[:n])
	if len(ahead) == len(lines) {
		return 8
	}
	return lines[len(ahead)].Pass
}

// all is the messages of a server's transfer when each is acknowledged at once, and how many ticks it took.
func all(t *testing.T, v *Server, boot uint32) (list []api.Msg, ticks int) {
	t.Helper()
	for v.Busy() {
		sent := told(v.Tick())
		if len(sent) == 0 || len(sent) > v.setup.Window {
			t.Fatal("sends", len(sent))
		}
		list = append(list, sent...)
		says(t, v.Recv(ack(boot, len(list))))
		ticks++
	}
	says(t, v.Tick())
	return list, ticks
}

// transfers holds all messages of a file that comes from at on.
func transfers(t *testing.T, list []api.Msg, b []byte, at, body int) {
	t.Helper()
	if n := 1 + (len(b)-at+body-1)/body; len(list) != n {
		t.Fatal(len(list), "messages, not", n)
	}
	if m := list[0]; m.Kind != api.KindOffer || m.Sum != sum(b) || m.Size != len(b) || m.At != at || m.Body != body {
		t.Fatal(m)
	}
	for i, m := range list[1:] {
		from := at + i*body
		if m.Kind != api.KindData || m.Index != i+1 || !bytes.Equal(m.Data, b[from:min(from+body, len(b))]) {
			t.Fatal(i, m)
		}
		if want := passAhead(b, from); m.Pass != want {
			t.Fatal("from", at, "body", body, "item", i+1, "pass", m.Pass, "not", want)
		}
	}
}

// Of a file of which it was counted by hand when which line is told: each segment from each offset on, by each body.
func TestP26_1PassesByHand(t *testing.T) {
	b := small()
	for n := range b {
		want := 8
		for i := len(smallTold) - 1; i >= 0; i-- {
			if n < smallTold[i] {
				want = smallPass[i]
			}
		}
		if got := passAhead(b, n); got != want {
			t.Fatal(n, got, want)
		}
	}
	s := plain()
	for at := range len(b) + 1 {
		for _, s.Body = range []int{1, 2, 3, 7, len(b) - 1, len(b), len(b) + 1, 1024} {
			v := serves(t, s, b)
			says(t, v.Recv(ask(6, 0, sum(b), at)))
			list, ticks := all(t, v, 6)
			transfers(t, list, b, at, s.Body)
			if want := (len(list) + s.Window - 1) / s.Window; ticks != want {
				t.Fatal(ticks, "ticks, not", want)
			}
		}
	}
}

// Files of both formats by chance, from offsets by chance on.
func TestP26_1TransfersByChance(t *testing.T) {
	rnd := rand.New(rand.NewSource(261))
	for range 150 {
		b := some(rnd)
		s := api.Setup{Body: 1 + rnd.Intn(60), Window: 1 + rnd.Intn(64), First: 1, Most: 1, Every: 1}
		v := serves(t, s, nil, b)
		at := rnd.Intn(len(b) + 1)
		says(t, v.Recv(ask(6, 1, sum(b), at)))
		list, _ := all(t, v, 6)
		transfers(t, list, b, at, s.Body)
	}
}

// A file whose size is just so many bodies, and one byte more and less.
func TestP26_1LastSegment(t *testing.T) {
	b := small()
	for _, one := range []struct{ body, last, items int }{
		{len(b), len(b), 2}, {len(b) - 1, 1, 3}, {len(b) + 1, len(b), 2}, {len(b) / 2, len(b) - 2*(len(b)/2), 4}, {1, 1, 1 + len(b)}, {1024, len(b), 2},
	} {
		if one.last == 0 {
			one.last, one.items = one.body, one.items-1
		}
		s := plain()
		s.Body = one.body
		v := serves(t, s, b)
		v.Recv(ask(1, 0, 0, 0))
		list, _ := all(t, v, 1)
		if len(list) != one.items || len(list[len(list)-1].Data) != one.last {
			t.Error(one, len(list), list[len(list)-1])
		}
	}
}

// From the end of the file on there is an offer alone.
func TestP26_1FromTheEnd(t *testing.T) {
	b := small()
	v := serves(t, plain(), b)
	says(t, v.Recv(ask(1, 0, sum(b), len(b))))
	for range 2 {
		says(t, v.Tick(), offerOf(1, 0, b, len(b), 20))
	}
	if !v.Busy() {
		t.Error("not busy")
	}
	says(t, v.Recv(ack(1, 1)))
	silent(t, v)
}

// When items are sent again: layer 23's gaps, by First and Most.
func TestP26_1Gaps(t *testing.T) {
	b := small()
	for _, one := range []struct {
		first, most int
		at          []int
	}{{1, 1, []int{1, 2, 3, 4, 5, 6, 7, 8, 9, 10, 11, 12}}, {1, 4, []int{1, 2, 4, 8, 12}}, {3, 5, []int{1, 4, 9}}, {4, 4, []int{1, 5, 9}}} {
		s := plain()
		s.First, s.Most = one.first, one.most
		v := serves(t, s, b)
		v.Recv(ask(2, 0, 0, 0))
		for i := range 12 {
			got := v.Tick()
			if !slices.Contains(one.at, i+1) {
				says(t, got)
				continue
			}
			says(t, got, offerOf(2, 0, b, 0, 20), data(2, 1, 1, b[:20]), data(2, 2, 1, b[20:40]))
		}
	}
}

// The window, and what acks and their ranges are for it.
func TestP26_1Acks(t *testing.T) {
	b := small()
	s := api.Setup{Body: 5, Window: 4, First: 2, Most: 2, Every: 1}
	v := serves(t, s, b)
	v.Recv(ask(2, 0, 0, 0))
	item := func(i int) []byte { return data(2, i, passAhead(b, (i-1)*5), b[(i-1)*5:i*5]) }
	says(t, v.Tick(), offerOf(2, 0, b, 0, 5), item(1), item(2), item(3))
	says(t, v.Recv(ack(2, 1, [2]int{2, 3})))
	says(t, v.Tick(), item(4))
	says(t, v.Tick(), item(1), item(3))
	says(t, v.Recv(ack(2, 0, [2]int{3, 5})))
	// Three above item 1 have come, so that it is hurried.
	says(t, v.Tick(), item(1))
	says(t, v.Recv(ack(2, 5)))
	says(t, v.Tick(), item(5), item(6), item(7), item(8))
	// What wasn't sent isn't acked.
	says(t, v.Recv(ack(2, 6, [2]int{8, 1000}, [2]int{1 << 30, 1<<31 - 1})))
	says(t, v.Tick(), item(9))
	says(t, v.Tick(), item(6), item(7))
	if !v.Busy() {
		t.Error("not busy")
	}
}

func TestP26_1Busy(t *testing.T) {
	b := small()
	v := serves(t, plain(), b, nil)
	busy := func(want bool) {
		t.Helper()
		if v.Busy() != want {
			t.Fatal(v.Busy())
		}
	}
	busy(false)
	v.Recv(ask(1, 0, 0, 0))
	busy(true)
	all(t, v, 1)
	busy(false)
	v.Recv(ask(2, 0, 0, 0))
	busy(true)
	v.Recv(ask(3, 1, 0, 0))
	busy(false)
	v.Recv(ask(4, 2, 0, 0))
	busy(false)
	v.Recv(ask(5, 0, 0, 0))
	busy(true)
	v.Recv(ask(4, 2, 0, 0))
	busy(true)
}
