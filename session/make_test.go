package session

import (
	"bytes"
	"hash/crc32"
	"math/rand"
	"slices"
	"testing"

	"halftone/api"
	"halftone/canvas"
	"halftone/front"
	"halftone/ingest"
	"halftone/segment"
	"halftone/token"
)

// must is an answer beside which there may be no error.
func must[T any](v T, e api.Errno) T {
	if e != api.OK {
		panic(e)
	}
	return v
}

// numbers is n of them, by chance, below end.
func numbers(rnd *rand.Rand, n, end int) []int {
	l := make([]int, n)
	for i := range l {
		l[i] = rnd.Intn(end)
	}
	return l
}

// greyPng is a PNG of grey samples of eight bits that are stored as they are: behind greyStart bytes each byte of the lines is one of the file.
func greyPng(w, h int, laced bool, samples ...int) []byte {
	r := api.Raster{Head: api.Head{W: w, H: h, Depth: 8, Laced: laced}, Samples: samples}
	return must(ingest.Png(r, 0, 0, api.MaxFile))
}

// greyStart is how many bytes stand ahead of the lines: the eight, IHDR, IDAT's size and kind, the wrapping's head, and the stored block's.
const greyStart = 8 + 25 + 8 + 2 + 5

// small is a laced PNG of 3 by 2 pixels. Its lines are told by these numbers of its bytes, and are of these passes.
func small() []byte { return greyPng(3, 2, true, 10, 20, 30, 40, 50, 60) }

var (
	smallTold = []int{greyStart + 2, greyStart + 4, greyStart + 6, greyStart + 10}
	smallPass = []int{1, 4, 6, 7}
)

// smallHead is by how many bytes its head is told.
const smallHead = 8 + 25

// somePng is a PNG by chance.
func somePng(rnd *rand.Rand, w, h int) []byte {
	kinds := [][2]int{{0, 1}, {0, 2}, {0, 4}, {0, 8}, {0, 16}, {2, 8}, {2, 16}, {3, 1}, {3, 2}, {3, 4}, {3, 8}, {4, 8}, {4, 16}, {6, 8}, {6, 16}}
	k := kinds[rnd.Intn(len(kinds))]
	r := api.Raster{Head: api.Head{W: w, H: h, Color: k[0], Depth: k[1], Laced: rnd.Intn(2) == 0}}
	end := 1 << k[1]
	if k[0] == 3 {
		end = 1 + rnd.Intn(end)
		r.Tints = make([]api.Tint, end)
		for i := range r.Tints {
			r.Tints[i] = api.Tint{R: byte(rnd.Intn(256)), G: byte(i), B: 7}
		}
	}
	r.Samples = numbers(rnd, w*h*[]int{1, 0, 3, 1, 2, 0, 4}[k[0]], end)
	return must(ingest.Png(r, rnd.Intn(4), rnd.Intn(6), 1+rnd.Intn(100)))
}

// someGif is a GIF by chance.
func someGif(rnd *rand.Rand, w, h int) []byte {
	n := 1 + rnd.Intn(40)
	r := api.Raster{Head: api.Head{W: w, H: h, Color: 3, Depth: 8, Laced: rnd.Intn(2) == 0}, Samples: numbers(rnd, w*h, n)}
	for i := range n {
		r.Tints = append(r.Tints, api.Tint{R: byte(rnd.Intn(256)), G: byte(i), B: 7})
	}
	if rnd.Intn(2) == 0 {
		r.Alpha = append(slices.Repeat([]int{255}, rnd.Intn(n)), 0)
	}
	return must(ingest.Gif(r, rnd.Intn(100), 1+rnd.Intn(255)))
}

// some is a file by chance that is accepted.
func some(rnd *rand.Rand) []byte {
	w, h := 1+rnd.Intn(9), 1+rnd.Intn(9)
	if rnd.Intn(2) == 0 {
		return someGif(rnd, w, h)
	}
	return somePng(rnd, w, h)
}

// spoilt is files that aren't accepted, each by another error.
func spoilt() map[api.Errno][]byte {
	b := small()
	with := func(i int, v byte) []byte {
		other := slices.Clone(b)
		other[i] ^= v
		return other
	}
	return map[api.Errno][]byte{
		api.ErrShort:  b[:len(b)-1],
		api.ErrForm:   {1},
		api.ErrSum:    with(29, 1),
		api.ErrStored: with(44, 1),
		api.ErrFilter: with(greyStart, 9),
		api.ErrTrail:  append(slices.Clone(b), 0),
	}
}

// sum is a file's, by the library.
func sum(b []byte) uint32 { return crc32.ChecksumIEEE(b) }

func ask(boot uint32, file int, sum uint32, at int) []byte {
	return must(segment.Write(api.Msg{Kind: 1, Boot: boot, File: file, Sum: sum, At: at}))
}

func offer(boot uint32, file int, sum uint32, size, at, body int) []byte {
	return must(segment.Write(api.Msg{Kind: 2, Boot: boot, File: file, Sum: sum, Size: size, At: at, Body: body}))
}

// offerOf is the offer of a file.
func offerOf(boot uint32, file int, b []byte, at, body int) []byte {
	return offer(boot, file, sum(b), len(b), at, body)
}

func data(boot uint32, index, pass int, b []byte) []byte {
	return must(segment.Write(api.Msg{Kind: 3, Boot: boot, Index: index, Pass: pass, Data: b}))
}

// dataOf is a segment of a file that comes from at on.
func dataOf(boot uint32, index int, b []byte, at, body int) []byte {
	from := at + (index-1)*body
	return data(boot, index, 0, b[from:min(from+body, len(b))])
}

func ack(boot uint32, next int, ranges ...[2]int) []byte {
	return must(segment.Write(api.Msg{Kind: 4, Boot: boot, Index: next, Ranges: ranges}))
}

func no(boot uint32, file, code int) []byte {
	return must(segment.Write(api.Msg{Kind: 5, Boot: boot, File: file, Code: code}))
}

// one is an answer of one message.
func one(t *testing.T, list [][]byte) api.Msg {
	t.Helper()
	if len(list) != 1 {
		t.Fatal(len(list), "messages", list)
	}
	return must(segment.Read(list[0]))
}

// says holds an answer.
func says(t *testing.T, got [][]byte, want ...[]byte) {
	t.Helper()
	if !slices.EqualFunc(got, want, bytes.Equal) {
		t.Fatal("says", told(got), "not", told(want))
	}
}

// told is messages as they are read.
func told(list [][]byte) (all []api.Msg) {
	for _, b := range list {
		m, e := segment.Read(b)
		if e != api.OK {
			m = api.Msg{Kind: -int(e), Data: b}
		}
		all = append(all, m)
	}
	return all
}

// plain is a setup that may be.
func plain() api.Setup { return api.Setup{Body: 20, Window: 3, First: 1, Most: 4, Every: 2} }

// serves is a server of files.
func serves(t *testing.T, s api.Setup, files ...[]byte) *Server {
	t.Helper()
	v, e := NewServer(files, s)
	if e != api.OK || v == nil || v.Busy() {
		t.Fatal(s, v, e)
	}
	return v
}

// with is a client.
func with(t *testing.T, store *token.Store, s api.Setup) *Client {
	t.Helper()
	c, e := NewClient(store, s)
	if e != api.OK || c == nil {
		t.Fatal(s, c, e)
	}
	stands(t, c, api.Off, 0, 0, 0, 0)
	return c
}

// asking is a client that asks for a file, with nothing in its store.
func asking(t *testing.T, s api.Setup, boot uint32, file int) (*Client, *token.Store) {
	t.Helper()
	store := token.New()
	return started(t, store, s, boot, file), store
}

// started is a client with a store that asks for a file.
func started(t *testing.T, store *token.Store, s api.Setup, boot uint32, file int) *Client {
	t.Helper()
	c := with(t, store, s)
	if e := c.Start(boot, file); e != api.OK {
		t.Fatal(e)
	}
	stands(t, c, api.Asking, 0, 0, 0, 0)
	return c
}

// stands holds what a client's calls answer, but for its canvas.
func stands(t *testing.T, c *Client, state, code, from, offset, held int) {
	t.Helper()
	got := [5]int{c.State(), c.Code(), c.From(), c.Offset(), c.Held()}
	if want := [5]int{state, code, from, offset, held}; got != want {
		t.Fatal("stands", got, "not", want)
	}
}

// shows holds that a client's canvas is that of a file's first bytes; none, if there is no head in them.
func shows(t *testing.T, c *Client, b []byte) {
	t.Helper()
	f := front.New()
	lines, _ := f.Push(b)
	h, known := f.Head()
	if !known {
		if c.Canvas() != nil {
			t.Fatal("a canvas without a head")
		}
		return
	}
	want := must(canvas.New(h.W, h.H))
	for _, l := range lines {
		if e := want.Lay(l); e != api.OK {
			t.Fatal(e)
		}
	}
	if got := c.Canvas(); !alike(got, want) {
		t.Fatal("shows", got, "not", want)
	}
}

// alike asks whether two canvases answer the same.
func alike(a, b *canvas.Canvas) bool {
	m, n := a.Image(), b.Image()
	return m.W == n.W && m.H == n.H && slices.Equal(m.Pix, n.Pix) && slices.Equal(a.Mask(), b.Mask()) && a.Count() == b.Count()
}

// keeps holds which token is in a store, and whether it is under way still.
func keeps(t *testing.T, store *token.Store, file int, sum uint32, b []byte, busy bool) {
	t.Helper()
	if store.Busy() != busy {
		t.Fatal("under way:", store.Busy())
	}
	store.Settle()
	k, e := token.Read(store.Get())
	if e != api.OK || k.File != file || k.Sum != sum || !bytes.Equal(k.Data, b) {
		t.Fatal("keeps", k, e, "not", file, sum, b)
	}
}

// empty holds that nothing is in a store.
func empty(t *testing.T, store *token.Store) {
	t.Helper()
	if store.Busy() || len(store.Get()) != 0 {
		t.Fatal(store.Busy(), store.Get())
	}
}

// holding is a store that has kept a token.
func holding(file int, sum uint32, b []byte) *token.Store {
	store := token.New()
	store.Put(must(token.Write(api.Token{File: file, Sum: sum, Data: b})))
	store.Settle()
	return store
}

// ends lets a server and a client go on, nothing being lost, until neither says anything any more.
func ends(t *testing.T, v *Server, c *Client) {
	t.Helper()
	for ticks := 0; c.State() == api.Asking || v.Busy(); ticks++ {
		if ticks > 1000 {
			t.Fatal("no end")
		}
		for _, m := range c.Tick() {
			for _, a := range v.Recv(m) {
				c.Recv(a)
			}
		}
		for _, m := range v.Tick() {
			for _, a := range c.Recv(m) {
				v.Recv(a)
			}
		}
	}
}
