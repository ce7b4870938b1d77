package session

import (
	"math"
	"slices"
	"testing"

	"halftone/api"
	"halftone/token"
)

// setupIs holds whether a setup may be, for both sides.
func setupIs(t *testing.T, s api.Setup, want api.Errno) {
	t.Helper()
	v, e := NewServer([][]byte{small()}, s)
	if e != want || (v == nil) != (want != api.OK) {
		t.Error("server of", s, v, e)
	}
	c, e := NewClient(token.New(), s)
	if e != want || (c == nil) != (want != api.OK) {
		t.Error("client of", s, c, e)
	}
}

func TestP26_1SetupsAtTheirBounds(t *testing.T) {
	for _, f := range []struct {
		most  int
		field func(s *api.Setup) *int
	}{
		{1024, func(s *api.Setup) *int { return &s.Body }},
		{64, func(s *api.Setup) *int { return &s.Window }},
		{65536, func(s *api.Setup) *int { return &s.Most }},
		{1 << 20, func(s *api.Setup) *int { return &s.Every }},
	} {
		for _, n := range []int{1, 2, f.most - 1, f.most} {
			s := api.Setup{Body: 20, Window: 3, First: 1, Most: 4, Every: 2}
			*f.field(&s) = n
			setupIs(t, s, api.OK)
		}
		for _, n := range []int{0, -1, f.most + 1, math.MinInt, math.MaxInt, 1 << 32, 1<<32 + 1, -1 << 31} {
			s := api.Setup{Body: 20, Window: 3, First: 1, Most: 4, Every: 2}
			*f.field(&s) = n
			setupIs(t, s, api.ErrArg)
		}
	}
}

func TestP26_1FirstUpToMost(t *testing.T) {
	for _, one := range []struct {
		first, most int
		want        api.Errno
	}{
		{1, 1, api.OK}, {2, 2, api.OK}, {3, 4, api.OK}, {65535, 65536, api.OK}, {65536, 65536, api.OK}, {1, 65536, api.OK},
		{0, 1, api.ErrArg}, {-1, 1, api.ErrArg}, {2, 1, api.ErrArg}, {5, 4, api.ErrArg}, {0, 0, api.ErrArg}, {-2, -1, api.ErrArg},
		{65537, 65537, api.ErrArg}, {1, 65537, api.ErrArg}, {65537, 65536, api.ErrArg}, {math.MinInt, 4, api.ErrArg}, {math.MaxInt, math.MaxInt, api.ErrArg},
	} {
		setupIs(t, api.Setup{Body: 1, Window: 1, First: one.first, Most: one.most, Every: 1}, one.want)
	}
	setupIs(t, api.Setup{}, api.ErrArg)
	setupIs(t, api.Setup{Body: 1024, Window: 64, First: 65536, Most: 65536, Every: 1 << 20}, api.OK)
}

func TestP26_1AtMostMaxFilesFiles(t *testing.T) {
	for n := range 40 {
		want := api.OK
		if n > 16 {
			want = api.ErrArg
		}
		v, e := NewServer(make([][]byte, n), plain())
		if e != want || (v == nil) != (want != api.OK) {
			t.Error(n, v, e)
		}
	}
	if v, e := NewServer(make([][]byte, 17), api.Setup{}); v != nil || e != api.ErrArg {
		t.Error(v, e)
	}
}

// Of the greatest catalogue each file is there, by its number.
func TestP26_1EveryFileByItsNumber(t *testing.T) {
	var files [][]byte
	for i := range 16 {
		files = append(files, greyPng(1+i, 1, false, make([]int, 1+i)...))
	}
	v := serves(t, plain(), files...)
	for i, b := range files {
		says(t, v.Recv(ask(uint32(i), i, 0, 0)))
		if m := told(v.Tick())[0]; m.File != i || m.Size != len(b) || m.Sum != sum(b) {
			t.Error(i, m)
		}
	}
}

func TestP26_1NoStore(t *testing.T) {
	for _, s := range []api.Setup{plain(), {}} {
		if c, e := NewClient(nil, s); c != nil || e != api.ErrArg {
			t.Error(s, c, e)
		}
	}
}

// A new client lets its store be: nothing is settled, and nothing put.
func TestP26_1NewLetsTheStoreBe(t *testing.T) {
	store := token.New()
	store.Put([]byte("x"))
	with(t, store, plain())
	if !store.Busy() || len(store.Get()) != 0 {
		t.Error(store.Busy(), store.Get())
	}
}

// A new server says nothing by itself, and takes an ack of no transfer.
func TestP26_1NewServerIsStill(t *testing.T) {
	v := serves(t, plain(), small())
	for range 3 {
		says(t, v.Tick())
		says(t, v.Recv(ack(0, 1)))
		if v.Busy() {
			t.Error("busy")
		}
	}
}

// Files of any bytes are taken; what they are is told by an ask.
func TestP26_1AnyBytesAreAFile(t *testing.T) {
	files := [][]byte{nil, {}, {0}, []byte("no picture"), slices.Repeat([]byte{137}, 2<<20)}
	v := serves(t, plain(), files...)
	for i := range files {
		if m := one(t, v.Recv(ask(uint32(i), i, 0, 0))); m.Kind != api.KindNo || m.File != i {
			t.Error(i, m)
		}
	}
}

// What is handed in may be another one behind the call.
func TestP26_1HandedInBehindTheCall(t *testing.T) {
	b := small()
	files := [][]byte{slices.Clone(b), slices.Clone(b)}
	s := plain()
	v, e := NewServer(files[:1], s)
	if e != api.OK {
		t.Fatal(e)
	}
	clear(files[0])
	files[0] = nil
	s = api.Setup{Body: 1, Window: 1, First: 1, Most: 1, Every: 1}
	says(t, v.Recv(ask(7, 0, 0, 0)))
	says(t, v.Tick(), offerOf(7, 0, b, 0, 20), data(7, 1, 1, b[:20]), data(7, 2, 1, b[20:40]))
	// A file that is in the spare room isn't one of the catalogue.
	says(t, v.Recv(ask(8, 1, 0, 0)), no(8, 1, 16))
	c, e := NewClient(token.New(), s)
	if e != api.OK {
		t.Fatal(e)
	}
	s.First, s.Most = 9, 9
	c.Start(1, 0)
	for range 3 {
		says(t, c.Tick(), ask(1, 0, 0, 0))
	}
}

func TestP26_1Nil(t *testing.T) {
	var v *Server
	var c *Client
	for _, b := range [][]byte{nil, {1}, ask(0, 0, 0, 0), ack(0, 1), offerOf(0, 0, small(), 0, 20), data(0, 1, 1, []byte{1}), no(0, 0, 16)} {
		says(t, v.Recv(b))
		says(t, v.Tick())
		if v.Busy() {
			t.Error("busy")
		}
		says(t, c.Recv(b))
		says(t, c.Tick())
		for _, file := range []int{0, 15, -1, 16} {
			if e := c.Start(1, file); e != api.ErrArg {
				t.Error(file, e)
			}
		}
		stands(t, c, 0, 0, 0, 0, 0)
		if c.Canvas() != nil {
			t.Error("a canvas")
		}
	}
}
