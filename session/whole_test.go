package session

import (
	"bytes"
	"math/rand"
	"slices"
	"testing"

	"halftone/api"
	"halftone/front"
	"halftone/ingest"
	"halftone/pixel"
	"halftone/segment"
	"halftone/token"
)

// complete holds that a client has all of a file.
func complete(t *testing.T, c *Client, b []byte) {
	t.Helper()
	if c.State() != api.Done || c.Offset() != len(b) || c.Held() != 0 || c.Code() != 0 {
		t.Fatal(c.State(), c.Offset(), "of", len(b), c.Held(), c.Code())
	}
	want, got := must(front.Check(b)), c.Canvas()
	if m := got.Image(); !got.Full() || m.W != want.W || m.H != want.H || !slices.Equal(m.Pix, want.Pix) {
		t.Fatal("another image")
	}
}

// P26.4: without a loss both come to an end, for files of both formats from every offset on.
func TestP26_4Accepted(t *testing.T) {
	rnd := rand.New(rand.NewSource(265))
	for row := range 120 {
		b := some(rnd)
		s := drawn(rnd)
		v := serves(t, s, nil, b)
		for boot, at := range []int{0, len(b), rnd.Intn(len(b)), 1} {
			store := holding(1, sum(b), b[:at])
			c := started(t, store, s, uint32(boot), 1)
			ends(t, v, c)
			complete(t, c, b)
			if c.From() != at || v.Busy() {
				t.Fatal(row, c.From(), "not", at, v.Busy())
			}
			keeps(t, store, 1, sum(b), b, true)
		}
	}
}

// P26.4: by so many ticks as items need of the window.
func TestP26_4InTime(t *testing.T) {
	b := small()
	for window := 1; window <= 64; window++ {
		for _, body := range []int{1, 10, 1024} {
			s := api.Setup{Body: body, Window: window, First: 9, Most: 9, Every: 1}
			v := serves(t, s, b)
			c, _ := asking(t, s, 1, 0)
			v.Recv(c.Tick()[0])
			n := 1 + (len(b)+body-1)/body
			for range (n + window - 1) / window {
				for _, m := range v.Tick() {
					for _, a := range c.Recv(m) {
						says(t, v.Recv(a))
					}
				}
			}
			complete(t, c, b)
			if v.Busy() {
				t.Fatal("busy")
			}
		}
	}
}

// P26.4 and P4: a file that isn't accepted is refused, with its error's number, and nothing of it is sent.
func TestP26_4NotAccepted(t *testing.T) {
	rnd := rand.New(rand.NewSource(266))
	met := map[int]int{}
	for range 400 {
		b := some(rnd)
		switch rnd.Intn(4) {
		case 0:
			b = b[:rnd.Intn(len(b))]
		case 1:
			b = append(b, byte(rnd.Intn(256)))
		case 2:
			b[rnd.Intn(len(b))] ^= 1 << rnd.Intn(8)
		case 3:
			b = slices.Delete(b, rnd.Intn(len(b)), len(b))
		}
		_, e := front.Check(b)
		v := serves(t, plain(), b)
		c := started(t, holding(0, sum(b), b), plain(), 3, 0)
		for range 5 {
			for _, m := range c.Tick() {
				for _, a := range v.Recv(m) {
					if m := must(segment.Read(a)); m.Kind != api.KindNo || e == api.OK {
						t.Fatal("sends", m)
					}
					says(t, c.Recv(a))
				}
			}
			for _, m := range v.Tick() {
				if e != api.OK {
					t.Fatal("sends", told([][]byte{m}))
				}
				for _, a := range c.Recv(m) {
					v.Recv(a)
				}
			}
		}
		if e != api.OK {
			stands(t, c, api.Refused, int(e), 0, 0, 0)
		} else {
			complete(t, c, b)
		}
		met[int(e)]++
	}
	if len(met) < 6 {
		t.Error(met)
	}
}

// net is one that loses: of each so many sendings of one message to one side, one behind the other, it lets one come, at last so many ticks later.
type net struct {
	rnd   *rand.Rand
	b     int
	sent  map[string]int
	keeps map[string]int // which one of each b sendings comes
	way   []onWay
}

type onWay struct {
	up bool
	b  []byte
	at int // the tick at which it comes
}

func newNet(rnd *rand.Rand, b int) *net {
	return &net{rnd: rnd, b: b, sent: map[string]int{}, keeps: map[string]int{}}
}

// send takes messages on the way, or loses them.
func (n *net) send(up bool, now int, list [][]byte) {
	for _, b := range list {
		name := string(b) + "down"
		if up {
			name = string(b) + "up"
		}
		// The last one of each b is the worst that may be; of some messages it is an earlier one.
		if n.sent[name] == 0 {
			n.keeps[name] = n.b - 1 - n.rnd.Intn(2)*n.rnd.Intn(n.b)
		}
		if n.sent[name]%n.b == n.keeps[name] {
			n.way = append(n.way, onWay{up, b, now + n.rnd.Intn(n.b+1)})
		}
		n.sent[name]++
	}
}

// come is what comes now, in whatever order.
func (n *net) come(now int) (list []onWay) {
	var left []onWay
	for _, w := range n.way {
		if w.at <= now {
			list = append(list, w)
		} else {
			left = append(left, w)
		}
	}
	n.way = left
	n.rnd.Shuffle(len(list), func(i, j int) { list[i], list[j] = list[j], list[i] })
	return list
}

// tick is one of both sides, and then what comes; each is called behind all that comes to the client.
func (n *net) tick(v *Server, c *Client, now int, each func()) {
	n.send(true, now, c.Tick())
	n.send(false, now, v.Tick())
	for _, w := range n.come(now) {
		if w.up {
			n.send(false, now, v.Recv(w.b))
			continue
		}
		n.send(true, now, c.Recv(w.b))
		each()
	}
}

// bound is P3's: by how many ticks a client is Done that gets a file over such a net.
func bound(s api.Setup, loses int, b []byte) int {
	items := 1 + (len(b)+s.Body-1)/s.Body
	return ((loses+1)*s.Most + 2*loses + 4) * (loses + 2) * (items + 3)
}

// run lets a server and a client go on over a net until it ends, and tells how many ticks it took.
func (n *net) run(t *testing.T, v *Server, c *Client, most int, each func()) int {
	t.Helper()
	for tick := 1; tick <= most; tick++ {
		n.tick(v, c, tick, each)
		if c.State() == api.Done {
			return tick
		}
	}
	t.Fatal("no end within", most, "ticks: state", c.State(), "offset", c.Offset())
	return 0
}

// P3, as far as a server and a client keep it: over a net that loses and delays it ends within the bound.
func TestP3OverANetThatLoses(t *testing.T) {
	rnd := rand.New(rand.NewSource(267))
	for row := range 160 {
		b, s, loses := some(rnd), drawn(rnd), 1+row%4
		v := serves(t, s, b)
		at := 0
		if row%3 == 0 {
			at = rnd.Intn(len(b) + 1)
		}
		c := started(t, holding(0, sum(b), b[:at]), s, 1, 0)
		newNet(rnd, loses).run(t, v, c, bound(s, loses, b), func() {
			if c.Held() >= s.Window {
				t.Fatal(c.Held(), "held of", s.Window)
			}
		})
		complete(t, c, b)
	}
}

// P3: behind crashes, too, each start asks with what is kept.
func TestP3BehindCrashes(t *testing.T) {
	rnd := rand.New(rand.NewSource(268))
	went := 0
	for range 60 {
		b, s, loses := some(rnd), drawn(rnd), 1+rnd.Intn(3)
		v := serves(t, s, b)
		store, n := token.New(), newNet(rnd, loses)
		reached := 0
		for boot := range 5 {
			c := started(t, store, s, uint32(boot), 0)
			if c.Canvas() != nil {
				t.Fatal("a canvas at the start")
			}
			for tick := range 1 + rnd.Intn(20) {
				n.tick(v, c, tick, func() {
					shows(t, c, b[:c.Offset()])
					reached = max(reached, c.Offset())
				})
			}
			store.Crash(rnd.Intn(2) == 0)
			n.way = nil
		}
		c := started(t, store, s, 5, 0)
		from := -1
		newNet(rnd, loses).run(t, v, c, bound(s, loses, b), func() {
			if c.State() != api.Asking && from < 0 {
				from = c.From()
				// It goes on from no farther than what had come.
				if from > reached {
					t.Fatal(from, "beyond", reached)
				}
			}
		})
		complete(t, c, b)
		if from > 0 {
			went++
		}
	}
	if went < 10 {
		t.Error("went on", went, "times")
	}
}

// P26.2: no item ahead of From is sent or acknowledged, and fewer segments than the window are held.
func TestP26_2NothingAheadOfFrom(t *testing.T) {
	rnd := rand.New(rand.NewSource(269))
	for range 60 {
		b, s := some(rnd), drawn(rnd)
		at := rnd.Intn(len(b) + 1)
		v := serves(t, s, b)
		c := started(t, holding(0, sum(b), b[:at]), s, 2, 0)
		v.Recv(c.Tick()[0])
		items := 1 + (len(b)-at+s.Body-1)/s.Body
		came := 0
		for c.State() != api.Done || v.Busy() {
			sent := v.Tick()
			rnd.Shuffle(len(sent), func(i, j int) { sent[i], sent[j] = sent[j], sent[i] })
			for _, one := range sent {
				if m := must(segment.Read(one)); m.Kind == api.KindData {
					from := at + (m.Index-1)*s.Body
					if m.Index < 1 || !bytes.Equal(m.Data, b[from:min(from+s.Body, len(b))]) {
						t.Fatal("item", m.Index, "of", items)
					}
					came += len(m.Data)
				} else if m.At != at {
					t.Fatal(m)
				}
				for _, a := range c.Recv(one) {
					m := must(segment.Read(a))
					last := m.Index
					for _, r := range m.Ranges {
						last = r[1]
					}
					if m.Kind != api.KindAck || last > items {
						t.Fatal("acknowledges", m, "of", items)
					}
					if rnd.Intn(3) > 0 {
						v.Recv(a)
					}
				}
				if c.Held() >= s.Window {
					t.Fatal(c.Held(), "are held of a window of", s.Window)
				}
				if c.State() != api.Asking && (c.From() != at || c.Offset() < at) {
					t.Fatal(c.From(), c.Offset(), at)
				}
			}
			if came > 40*len(b)+40000 {
				t.Fatal("no end")
			}
		}
		complete(t, c, b)
	}
}

// opaque is a picture of which each pixel covers all, so that what is known isn't zero.
func opaque(rnd *rand.Rand, gif, laced bool, w, h int) []byte {
	r := api.Raster{Head: api.Head{W: w, H: h, Color: 3, Depth: 8, Laced: laced}, Samples: numbers(rnd, w*h, 9)}
	for i := range 9 {
		r.Tints = append(r.Tints, api.Tint{R: byte(i + 1), G: 200, B: byte(i)})
	}
	if gif {
		return must(ingest.Gif(r, 0, 255))
	}
	return must(ingest.Png(r, 3, 5, 64))
}

// P2: a line is shown as soon as all its bits have come in order, pass by pass; of a laced picture the view leaves nothing out once the first pass is there.
func TestP2AsSoonAsTheyAreThere(t *testing.T) {
	rnd := rand.New(rand.NewSource(270))
	for row := range 40 {
		gif, laced := row%2 == 0, row%4 < 2
		b := opaque(rnd, gif, laced, 1+rnd.Intn(20), 1+rnd.Intn(20))
		s := drawn(rnd)
		s.Body = 1 + rnd.Intn(12)
		lines := must(front.Lines(b))
		v := serves(t, s, b)
		c := started(t, token.New(), s, 1, 0)
		loses := 1 + rnd.Intn(3)
		newNet(rnd, loses).run(t, v, c, bound(s, loses, b), func() {
			shows(t, c, b[:c.Offset()])
			if c.Canvas() == nil {
				return
			}
			first := 0
			for _, l := range lines {
				if l.Pass == lines[0].Pass {
					first += len(l.Spots)
				}
			}
			if laced && c.Canvas().Count() >= first && slices.Contains(c.Canvas().View(gif).Pix, api.Color{}) {
				t.Fatal("the view leaves something out")
			}
		})
		complete(t, c, b)
	}
}

// turn turns bits of bytes, as the number in mask has them, from a bit on.
func turn(b []byte, from int, mask uint32) []byte {
	b = slices.Clone(b)
	for i := range 32 {
		if at := from + i; mask>>i&1 == 1 && at < len(b)*8 {
			b[at/8] ^= 1 << (at % 8)
		}
	}
	return b
}

// P4: messages of which bits within 32 are turned are answered nothing, and change nothing, on both sides.
func TestP4TurnedMessages(t *testing.T) {
	rnd := rand.New(rand.NewSource(271))
	for range 30 {
		b, s := some(rnd), drawn(rnd)
		v, w := serves(t, s, b), serves(t, s, b)
		c, d := started(t, token.New(), s, 1, 0), started(t, token.New(), s, 1, 0)
		spoil := func(m []byte, recv func([]byte) [][]byte) {
			for range 4 {
				mask := uint32(rnd.Intn(1<<32-1) + 1)
				if rnd.Intn(2) == 0 {
					mask = 1
				}
				if bad := turn(m, rnd.Intn(len(m)*8), mask); !bytes.Equal(bad, m) {
					says(t, recv(bad))
				}
			}
		}
		for range 10 * len(b) {
			asked := c.Tick()
			says(t, d.Tick(), asked...)
			for _, m := range asked {
				spoil(m, v.Recv)
				v.Recv(m)
				w.Recv(m)
			}
			sent := v.Tick()
			says(t, w.Tick(), sent...)
			for _, m := range sent {
				spoil(m, c.Recv)
				a := c.Recv(m)
				says(t, d.Recv(m), a...)
				for _, m := range a {
					spoil(m, v.Recv)
					v.Recv(m)
					w.Recv(m)
				}
				stands(t, c, d.State(), 0, 0, d.Offset(), d.Held())
			}
			if !v.Busy() {
				break
			}
		}
		complete(t, c, b)
	}
}

// P4: whatever is forged, no call panics, fewer segments than the window are held, and a canvas has at most MaxPixels pixels.
func TestP4Forged(t *testing.T) {
	rnd := rand.New(rand.NewSource(272))
	huge := opaque(rnd, false, false, 256, 256)
	met := map[int]int{}
	for range 80 {
		p := newPair(t, rnd)
		p.start(0)
		for range 200 {
			b := p.forged()
			switch rnd.Intn(9) {
			case 0:
				b = make([]byte, rnd.Intn(40))
				rnd.Read(b)
			case 1:
				from := rnd.Intn(len(huge) - 10)
				b = data(p.boot, 1+rnd.Intn(3), 1, huge[from:from+10])
			case 2:
				b = offerOf(p.boot, rnd.Intn(2), huge, 0, 10)
			}
			p.client.Recv(b)
			p.server.Recv(b)
			p.client.Tick()
			for _, m := range p.server.Tick() {
				p.client.Recv(m)
			}
			if p.client.Held() >= p.setup.Window {
				t.Fatal(p.client.Held(), "are held of", p.setup.Window)
			}
			if m := p.client.Canvas(); m != nil && len(m.Image().Pix) > 65536 {
				t.Fatal("a great canvas")
			}
			met[p.client.State()]++
		}
	}
	for _, state := range []int{api.Asking, api.Getting, api.Refused, api.Broken} {
		if met[state] == 0 {
			t.Error("never in state", state)
		}
	}
}

// P4: a token of other bytes that has the file's sum is of no use: what has come is Broken, never Done.
func TestP4TokenOfOtherBytes(t *testing.T) {
	rnd := rand.New(rand.NewSource(273))
	for range 60 {
		b := some(rnd)
		n := 1 + rnd.Intn(len(b))
		other := slices.Clone(b[:n])
		other[rnd.Intn(n)] ^= 1 << rnd.Intn(8)
		store := holding(0, sum(b), other)
		v, c := serves(t, plain(), b), started(t, store, plain(), 1, 0)
		for range 500 {
			for _, m := range c.Tick() {
				v.Recv(m)
			}
			for _, m := range v.Tick() {
				for _, a := range c.Recv(m) {
					v.Recv(a)
				}
			}
		}
		if c.State() != api.Broken || c.Offset() < n {
			t.Fatal(c.State(), c.Offset())
		}
		shows(t, c, append(other, b[n:c.Offset()]...))
	}
}

// P5: every raster that may be is a file that is sent, and comes as its image.
func TestP5EveryRaster(t *testing.T) {
	rnd := rand.New(rand.NewSource(274))
	kinds := [][2]int{{0, 1}, {0, 2}, {0, 4}, {0, 8}, {0, 16}, {2, 8}, {2, 16}, {3, 1}, {3, 2}, {3, 4}, {3, 8}, {4, 8}, {4, 16}, {6, 8}, {6, 16}}
	sides := [][2]int{{1, 1}, {7, 5}, {2048, 9}, {9, 2048}, {200, 100}}
	s := api.Setup{Body: 1024, Window: 64, First: 1, Most: 2, Every: 30}
	for i, k := range slices.Concat(kinds, kinds) {
		side := sides[i%len(sides)]
		r := api.Raster{Head: api.Head{W: side[0], H: side[1], Color: k[0], Depth: k[1], Laced: i%2 == 0}}
		end := 1 << k[1]
		if k[0] == 3 {
			for i := range end {
				r.Tints = append(r.Tints, api.Tint{R: byte(i), G: byte(i * 3), B: 9})
			}
			r.Alpha = append(slices.Repeat([]int{255}, end-1), 0)
		}
		r.Samples = numbers(rnd, side[0]*side[1]*[]int{1, 0, 3, 1, 2, 0, 4}[k[0]], end)
		files := [][]byte{must(ingest.Png(r, i%4, i%6, 64+i*100))}
		if k == [2]int{3, 8} {
			files = append(files, must(ingest.Gif(r, i, 1+i*8)))
		}
		v := serves(t, s, files...)
		for file, b := range files {
			c := started(t, token.New(), s, uint32(file), file)
			ends(t, v, c)
			complete(t, c, b)
			if want := must(pixel.Image(r)); !slices.Equal(c.Canvas().Image().Pix, want.Pix) {
				t.Fatal(k, "another image than the raster's")
			}
		}
	}
}
