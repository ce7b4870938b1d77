package session

import (
	"bytes"
	"math/rand"
	"slices"
	"testing"

	"halftone/api"
	"halftone/canvas"
	"halftone/front"
	"halftone/segment"
	"halftone/sender"
	"halftone/token"
)

// slowServer is a server by the chapter's words.
type slowServer struct {
	s        api.Setup
	files    [][]byte
	boot     int64 // -1: none
	refusal  []byte
	file, at int
	out      *sender.Sender
}

func (v *slowServer) recv(b []byte) [][]byte {
	m, e := segment.Read(b)
	if e != api.OK {
		return nil
	}
	boot := int64(m.Boot)
	if m.Kind == api.KindAck && boot == v.boot && v.out != nil {
		v.out.Ack(m.Index, m.Ranges)
	}
	if m.Kind != api.KindAsk || boot < v.boot {
		return nil
	}
	if boot > v.boot {
		v.boot, v.refusal, v.out = boot, nil, nil
		code := 16
		if m.File < len(v.files) {
			_, e := front.Check(v.files[m.File])
			code = int(e)
		}
		if code == 0 {
			v.begin(m)
		} else {
			v.refusal = no(m.Boot, m.File, code)
		}
	}
	if v.refusal == nil {
		return nil
	}
	return [][]byte{v.refusal}
}

func (v *slowServer) begin(m api.Msg) {
	b := v.files[m.File]
	v.file, v.at = m.File, 0
	if m.Sum == sum(b) && m.At <= len(b) {
		v.at = m.At
	}
	n := 1
	for from := v.at; from < len(b); from += v.s.Body {
		n++
	}
	v.out = must(sender.New(n, v.s.Window, v.s.First, v.s.Most))
}

func (v *slowServer) tick() (list [][]byte) {
	if v.out == nil {
		return nil
	}
	b := v.files[v.file]
	for _, i := range v.out.Tick() {
		if i == 0 {
			list = append(list, offerOf(uint32(v.boot), v.file, b, v.at, v.s.Body))
			continue
		}
		from := v.at + (i-1)*v.s.Body
		list = append(list, data(uint32(v.boot), i, passAhead(b, from), b[from:min(from+v.s.Body, len(b))]))
	}
	return list
}

func (v *slowServer) busy() bool { return v.out != nil && !v.out.Done() }

// slowClient is a client by the chapter's words, that works all out anew from the items that came.
type slowClient struct {
	s           api.Setup
	store       *token.Store
	state, code int
	boot        uint32
	asks        api.Token
	wait, gap   int // for how many ticks it will send nothing, and the gap behind the last sending
	offer       api.Msg
	begin       []byte         // the token's bytes
	came        map[int][]byte // nil ahead of the offer
	put         int            // Next when the token was put
}

func (c *slowClient) start(boot uint32, file int) api.Errno {
	c.store.Settle()
	if c.state != api.Off {
		return api.ErrBusy
	}
	if file < 0 || file > 15 {
		return api.ErrArg
	}
	c.state, c.boot = api.Asking, boot
	c.asks = api.Token{File: file}
	if k, e := token.Read(c.store.Get()); e == api.OK && k.File == file {
		c.asks = k
	}
	return api.OK
}

func (c *slowClient) tick() [][]byte {
	c.store.Settle()
	if c.state != api.Asking {
		return nil
	}
	if c.wait > 0 {
		c.wait--
		return nil
	}
	if c.gap == 0 {
		c.gap = c.s.First
	} else {
		c.gap = min(c.gap*2, c.s.Most)
	}
	c.wait = c.gap - 1
	return [][]byte{ask(c.boot, c.asks.File, c.asks.Sum, len(c.asks.Data))}
}

func (c *slowClient) items() int {
	n := 1
	for from := c.offer.At; from < c.offer.Size; from += c.offer.Body {
		n++
	}
	return n
}

func (c *slowClient) next() int {
	i := 0
	for c.came[i] != nil {
		i++
	}
	return i
}

// bytes are those that are there in order.
func (c *slowClient) bytes() []byte {
	b := slices.Clone(c.begin)
	for i := 1; i < c.next(); i++ {
		b = append(b, c.came[i]...)
	}
	return b
}

func (c *slowClient) held() int { return len(c.came) - c.next() }

func (c *slowClient) ranges() (list [][2]int) {
	for i := c.next() + 1; i < c.items(); i++ {
		if c.came[i] == nil {
			continue
		}
		if c.came[i-1] == nil {
			list = append(list, [2]int{i, i})
		}
		list[len(list)-1][1] = i + 1
	}
	return list[:min(len(list), 4)]
}

func (c *slowClient) take(i int, b []byte) {
	if c.came[i] == nil && i < c.next()+c.s.Window {
		c.came[i] = append([]byte{}, b...)
	}
}

func (c *slowClient) recv(b []byte) [][]byte {
	c.store.Settle()
	m, e := segment.Read(b)
	if e != api.OK || m.Boot != c.boot {
		return nil
	}
	switch {
	case c.state == api.Asking && m.Kind == api.KindNo && m.File == c.asks.File:
		c.state, c.code = api.Refused, m.Code
		return nil
	case c.state == api.Asking && m.Kind == api.KindOffer && m.File == c.asks.File && (m.At == 0 || m.At == len(c.asks.Data) && m.Sum == c.asks.Sum):
		c.state, c.offer, c.came, c.put = api.Getting, m, map[int][]byte{}, 1
		if m.At > 0 {
			c.begin = c.asks.Data
		}
		c.take(0, nil)
		return c.then()
	case (c.state == api.Getting || c.state == api.Done) && m.Kind == api.KindOffer:
		return c.then()
	case (c.state == api.Getting || c.state == api.Done) && m.Kind == api.KindData:
		from := c.offer.At + (m.Index-1)*c.offer.Body
		if m.Index < 1 || m.Index >= c.items() || len(m.Data) != min(c.offer.Body, c.offer.Size-from) {
			return nil
		}
		c.take(m.Index, m.Data)
		return c.then()
	}
	return nil
}

// then is what the chapter says of both cases.
func (c *slowClient) then() [][]byte {
	f, b, all := front.New(), c.bytes(), c.next() == c.items()
	_, e := f.Push(b)
	if e != api.OK || all && (!f.Done() || sum(b) != c.offer.Sum) {
		c.state = api.Broken
		return nil
	}
	ahead := c.state
	if all {
		c.state = api.Done
	}
	if c.state != ahead || c.next()-c.put >= c.s.Every {
		c.store.Put(must(token.Write(api.Token{File: c.asks.File, Sum: c.offer.Sum, Data: b})))
		c.put = c.next()
	}
	return [][]byte{ack(c.boot, c.next(), c.ranges()...)}
}

// canvas is what is shown; nil, if there is none.
func (c *slowClient) canvas() *canvas.Canvas {
	f := front.New()
	lines, _ := f.Push(c.bytes())
	h, known := f.Head()
	if !known {
		return nil
	}
	v := must(canvas.New(h.W, h.H))
	for _, l := range lines {
		v.Lay(l)
	}
	return v
}

// pair is a server and a client, and the slow ones beside them, which are told the same.
type pair struct {
	t      *testing.T
	rnd    *rand.Rand
	files  [][]byte
	server *Server
	client *Client
	setup  api.Setup // the client's
	store  *token.Store
	slow   *slowServer
	other  *slowClient
	boot   uint32
	// What is on the way to the server, and to the client.
	up, down [][]byte
}

// newPair is one of drawn files and setups.
func newPair(t *testing.T, rnd *rand.Rand) *pair {
	p := &pair{t: t, rnd: rnd, store: token.New()}
	for range 1 + rnd.Intn(3) {
		b := some(rnd)
		if rnd.Intn(6) == 0 {
			b[rnd.Intn(len(b))] ^= 1 << rnd.Intn(8)
		}
		p.files = append(p.files, b)
	}
	s := drawn(rnd)
	p.server, p.slow = serves(t, s, p.files...), &slowServer{s: s, files: p.files, boot: -1}
	p.setup = s
	if rnd.Intn(3) == 0 {
		p.setup = drawn(rnd)
	}
	p.other = &slowClient{store: token.New()}
	p.crash()
	return p
}

// drawn is a setup by chance.
func drawn(rnd *rand.Rand) api.Setup {
	most := 1 + rnd.Intn(8)
	return api.Setup{Body: 1 + rnd.Intn([]int{3, 20, 200}[rnd.Intn(3)]), Window: 1 + rnd.Intn([]int{2, 9, 64}[rnd.Intn(3)]), First: 1 + rnd.Intn(most), Most: most, Every: 1 + rnd.Intn(9)}
}

// crash lets the client be a new one, that has the store.
func (p *pair) crash() {
	keep := p.rnd.Intn(2) == 0
	p.store.Crash(keep)
	p.other.store.Crash(keep)
	p.client = with(p.t, p.store, p.setup)
	p.other = &slowClient{s: p.setup, store: p.other.store}
}

// start starts the client, if it may be started.
func (p *pair) start(file int) {
	if p.client.State() == api.Off {
		p.boot++
	}
	got, want := p.client.Start(p.boot, file), p.other.start(p.boot, file)
	if got != want {
		p.t.Fatal("start", file, got, "not", want)
	}
}

func (p *pair) toServer(b []byte) {
	got, want := p.server.Recv(slices.Clone(b)), p.slow.recv(b)
	p.same("server is told", told([][]byte{b}), got, want)
	p.down = append(p.down, got...)
}

func (p *pair) toClient(b []byte) {
	got, want := p.client.Recv(slices.Clone(b)), p.other.recv(b)
	p.same("client is told", told([][]byte{b}), got, want)
	p.up = append(p.up, got...)
}

func (p *pair) same(what string, of []api.Msg, got, want [][]byte) {
	p.t.Helper()
	if !slices.EqualFunc(got, want, bytes.Equal) {
		p.t.Fatal(what, of, "answers", told(got), "not", told(want))
	}
}

func (p *pair) tick(client bool) {
	if client {
		got, want := p.client.Tick(), p.other.tick()
		p.same("client ticks", nil, got, want)
		p.up = append(p.up, got...)
		return
	}
	got, want := p.server.Tick(), p.slow.tick()
	p.same("server ticks", nil, got, want)
	p.down = append(p.down, got...)
}

// stands holds what all other calls answer.
func (p *pair) stands() {
	p.t.Helper()
	c := p.other
	offset := 0
	if c.came != nil {
		offset = len(c.bytes())
	}
	stands(p.t, p.client, c.state, c.code, c.offer.At, offset, c.held())
	got, want := p.client.Canvas(), c.canvas()
	if (got == nil) != (want == nil) || want != nil && !alike(got, want) {
		p.t.Fatal("shows", got, "not", want)
	}
	if p.server.Busy() != p.slow.busy() {
		p.t.Fatal("busy:", p.server.Busy())
	}
	if p.store.Busy() != c.store.Busy() || !bytes.Equal(p.store.Get(), c.store.Get()) {
		p.t.Fatal("kept:", p.store.Busy(), p.store.Get(), "not", c.store.Busy(), c.store.Get())
	}
}

// any takes a message off a way, or lets it be there still.
func (p *pair) any(way *[][]byte) []byte {
	i := 0
	if p.rnd.Intn(3) == 0 {
		i = p.rnd.Intn(len(*way))
	}
	b := (*way)[i]
	if p.rnd.Intn(8) > 0 {
		*way = slices.Delete(*way, i, i+1)
	}
	return b
}

// forged is a message by chance that may be meant for anyone.
func (p *pair) forged() []byte {
	rnd := p.rnd
	boot := p.boot + uint32(max(rnd.Intn(8)-6, 0))
	file := rnd.Intn(len(p.files) + 1)
	b := append(slices.Clone(p.files[file%len(p.files)]), 0)
	b = b[:len(b)-min(1, rnd.Intn(5))]
	at, body := min(len(p.other.asks.Data), len(b)), p.slow.s.Body
	switch rnd.Intn(4) {
	case 0:
		at = 0
	case 1:
		at = rnd.Intn(len(b) + 1)
	}
	s := sum(b)
	if rnd.Intn(4) == 0 {
		s = p.other.asks.Sum
	}
	switch rnd.Intn(5) {
	case 0:
		return ask(boot, file, s, at)
	case 1:
		return offer(boot, file, s, len(b), at, body)
	case 2:
		// One that fits, mostly.
		i := p.other.next() + rnd.Intn(3)
		n := max(1, min(p.other.offer.Body, p.other.offer.Size-p.other.offer.At-(i-1)*p.other.offer.Body))
		text := make([]byte, min(1024, n+max(0, rnd.Intn(6)-4)))
		rnd.Read(text)
		return data(boot, i, rnd.Intn(9), text)
	case 3:
		next := rnd.Intn(6)
		return ack(boot, next, [2]int{next + 1 + rnd.Intn(3), next + 5})
	}
	return no(boot, file, rnd.Intn(20))
}

// step is an act by chance.
func (p *pair) step(wild bool) {
	rnd := p.rnd
	switch k := rnd.Intn(40); {
	case k < 5:
		p.tick(true)
	case k < 12:
		p.tick(false)
	case k < 22 && len(p.up) > 0:
		p.toServer(p.any(&p.up))
	case k < 36 && len(p.down) > 0:
		p.toClient(p.any(&p.down))
	case k == 36 && rnd.Intn(5) == 0:
		p.crash()
	case k == 37:
		p.start(rnd.Intn(len(p.files)+1) - rnd.Intn(2))
	case k == 38 && wild:
		b := p.forged()
		if rnd.Intn(2) == 0 {
			p.toClient(b)
		} else {
			p.toServer(b)
		}
	case k == 39 && wild && len(p.down) > 0 && len(p.up) > 0:
		// To the wrong side, and with a bit turned.
		p.toServer(p.any(&p.down))
		p.toClient(p.any(&p.up))
		if len(p.down) > 0 {
			b := slices.Clone(p.down[0])
			b[rnd.Intn(len(b))] ^= 1 << rnd.Intn(8)
			p.toClient(b)
		}
	}
	if len(p.up) > 60 {
		p.up = p.up[30:]
	}
	if len(p.down) > 90 {
		p.down = p.down[45:]
	}
}

// P26.1: rows of calls by chance, held against a server and a client by the chapter's words.
func TestP26_1AgainstTheChaptersWords(t *testing.T) {
	rnd := rand.New(rand.NewSource(264))
	states := map[int]int{}
	from, held := 0, 0
	for row := range 160 {
		p := newPair(t, rnd)
		p.start(rnd.Intn(len(p.files)))
		for range 280 {
			p.step(row%3 > 0)
			p.stands()
			states[p.client.State()]++
			if p.client.From() > 0 {
				from++
			}
			held += p.client.Held()
		}
	}
	for state := range 6 {
		if states[state] < 100 {
			t.Error("state", state, "was met", states[state], "times")
		}
	}
	if from < 1000 || held < 1000 {
		t.Error(from, held)
	}
}
