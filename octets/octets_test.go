package octets

import (
	"bytes"
	"math"
	"math/rand"
	"slices"
	"testing"

	"halftone/api"
)

// value is the number of bytes, the highest first, told by multiplication alone.
func value(b []byte) int {
	v := 0
	for _, x := range b {
		v = 256*v + int(x)
	}
	return v
}

func turned(b []byte) []byte {
	b = slices.Clone(b)
	slices.Reverse(b)
	return b
}

// failed holds that a cursor has failed with e, and tells nothing any more.
func failed(t *testing.T, c *Cursor, e api.Errno) {
	t.Helper()
	for _, n := range []int{0, 1, 2, 4, 5, -1, math.MaxInt, math.MinInt} {
		if v := c.Big(n); v != 0 {
			t.Fatal("Big", n, v)
		}
		if v := c.Little(n); v != 0 {
			t.Fatal("Little", n, v)
		}
		if b := c.Bytes(n); len(b) != 0 {
			t.Fatal("Bytes", n, b)
		}
	}
	for _, other := range []api.Errno{api.OK, api.ErrArg, api.ErrShort, api.ErrForm} {
		c.Fail(other)
		if c.Err() != e {
			t.Fatal("Err", c.Err(), "not", e)
		}
	}
	if c.Left() != 0 {
		t.Fatal("Left", c.Left())
	}
}

func TestP2_1Examples(t *testing.T) {
	b := []byte{1, 2, 3}
	if v, e := Big(b, 0, 2); v != 258 || e != api.OK {
		t.Error(v, e)
	}
	if v, e := Little(b, 0, 2); v != 513 || e != api.OK {
		t.Error(v, e)
	}
	if v, e := Big(b, 2, 2); v != 0 || e != api.ErrShort {
		t.Error(v, e)
	}
	if v, e := Little(b, 2, 2); v != 0 || e != api.ErrShort {
		t.Error(v, e)
	}
	c := New(b)
	if c.Big(2) != 258 || c.Left() != 1 || c.Little(2) != 0 || c.Err() != api.ErrShort || c.Left() != 0 {
		t.Error(c.Left(), c.Err())
	}
}

// Every place and every number of bytes, those of the edges and those that are wrong.
func TestP2_1Numbers(t *testing.T) {
	full := []byte{0xff, 0x80, 0x01, 0xfe, 0x7f, 0xff}
	places := []int{math.MinInt, -4, -1, 0, 1, 2, 3, 4, 5, 6, 7, math.MaxInt - 3, math.MaxInt - 1, math.MaxInt}
	counts := []int{math.MinInt, -1, 0, 1, 2, 3, 4, 5, 8, math.MaxInt}
	for size := range len(full) + 1 {
		b := full[:size]
		for _, at := range places {
			for _, n := range counts {
				high, low, want := 0, 0, api.OK
				switch {
				case n < 1 || n > 4 || at < 0:
					want = api.ErrArg
				case at > size || n > size-at:
					want = api.ErrShort
				default:
					high, low = value(b[at:at+n]), value(turned(b[at:at+n]))
				}
				if v, e := Big(b, at, n); v != high || e != want {
					t.Error("Big", size, at, n, v, e)
				}
				if v, e := Little(b, at, n); v != low || e != want {
					t.Error("Little", size, at, n, v, e)
				}
			}
		}
	}
}

// A number's bytes end where b ends, not where its room does.
func TestP2_1SpareRoom(t *testing.T) {
	b := []byte{1, 2, 3, 4}[:2]
	if v, e := Big(b, 1, 2); v != 0 || e != api.ErrShort {
		t.Error(v, e)
	}
	if v, e := Little(b, 1, 2); v != 0 || e != api.ErrShort {
		t.Error(v, e)
	}
	c := New(b)
	if c.Left() != 2 || c.Bytes(3) != nil {
		t.Error(c.Left())
	}
	failed(t, c, api.ErrShort)
}

func TestP2_1NoBytes(t *testing.T) {
	for _, b := range [][]byte{nil, {}} {
		if v, e := Big(b, 0, 1); v != 0 || e != api.ErrShort {
			t.Error(v, e)
		}
		if v, e := Little(b, 0, 0); v != 0 || e != api.ErrArg {
			t.Error(v, e)
		}
	}
}

func TestP2_1Put(t *testing.T) {
	v := 0x0102030405060708
	all := []byte{1, 2, 3, 4, 5, 6, 7, 8}
	for _, n := range []int{math.MinInt, -1, 0, 1, 2, 3, 4, 5, 6, 7, 8, 9, 64, math.MaxInt} {
		want := all[8-max(0, min(n, 8)):]
		if b := PutBig(n, v); !bytes.Equal(b, want) {
			t.Error("PutBig", n, b)
		}
		if b := PutLittle(n, v); !bytes.Equal(b, turned(want)) {
			t.Error("PutLittle", n, b)
		}
	}
}

func TestP2_1PutEdges(t *testing.T) {
	for _, c := range []struct {
		n, v int
		want []byte
	}{
		{1, 256, []byte{0}},
		{2, -1, []byte{255, 255}},
		{3, -2, []byte{255, 255, 254}},
		{8, -1, bytes.Repeat([]byte{255}, 8)},
		{8, math.MinInt, []byte{128, 0, 0, 0, 0, 0, 0, 0}},
		{8, math.MaxInt, []byte{127, 255, 255, 255, 255, 255, 255, 255}},
		{4, math.MaxUint32, []byte{255, 255, 255, 255}},
		{4, 1 << 32, []byte{0, 0, 0, 0}},
		{3, 0, []byte{0, 0, 0}},
	} {
		if b := PutBig(c.n, c.v); !bytes.Equal(b, c.want) {
			t.Error("PutBig", c.n, c.v, b)
		}
		if b := PutLittle(c.n, c.v); !bytes.Equal(b, turned(c.want)) {
			t.Error("PutLittle", c.n, c.v, b)
		}
	}
}

func TestP2_1Cursor(t *testing.T) {
	c := New([]byte{1, 2, 3, 4, 5, 6, 7, 8, 9, 10, 0xff, 0xff, 0xff, 0xff, 11})
	if v := c.Big(1); v != 1 {
		t.Error(v)
	}
	if v := c.Little(3); v != 0x040302 {
		t.Error(v)
	}
	if b := c.Bytes(2); !bytes.Equal(b, []byte{5, 6}) {
		t.Error(b)
	}
	if b := c.Bytes(0); len(b) != 0 || c.Err() != api.OK || c.Left() != 9 {
		t.Error(b, c.Err(), c.Left())
	}
	if v := c.Big(4); v != 0x0708090a {
		t.Error(v)
	}
	if v := c.Little(4); v != math.MaxUint32 {
		t.Error(v)
	}
	if b := c.Bytes(1); !bytes.Equal(b, []byte{11}) {
		t.Error(b)
	}
	if b := c.Bytes(0); len(b) != 0 || c.Err() != api.OK || c.Left() != 0 {
		t.Error(b, c.Err(), c.Left())
	}
	c.Big(1)
	failed(t, c, api.ErrShort)
}

// calls are the ways in which a cursor reads, each asked for n bytes.
func calls() map[string]func(c *Cursor, n int) {
	return map[string]func(c *Cursor, n int){
		"Big":    func(c *Cursor, n int) { c.Big(n) },
		"Little": func(c *Cursor, n int) { c.Little(n) },
		"Bytes":  func(c *Cursor, n int) { c.Bytes(n) },
	}
}

func TestP2_1CursorErrors(t *testing.T) {
	for name, call := range calls() {
		for size := range 7 {
			for _, n := range []int{math.MinInt, -1, 0, 1, 2, 3, 4, 5, 6, 7, math.MaxInt} {
				wrong := n < 0
				if name != "Bytes" {
					wrong = n < 1 || n > 4
				}
				c := New(make([]byte, size))
				call(c, n)
				switch {
				case wrong:
					failed(t, c, api.ErrArg)
				case n > size:
					failed(t, c, api.ErrShort)
				case c.Err() != api.OK || c.Left() != size-n:
					t.Error(name, size, n, c.Err(), c.Left())
				}
			}
		}
	}
}

func TestP2_1Fail(t *testing.T) {
	for _, e := range []api.Errno{api.ErrArg, api.ErrForm, api.ErrLine, 99, -1} {
		c := New([]byte{1, 2, 3})
		c.Fail(api.OK)
		if c.Err() != api.OK || c.Left() != 3 || c.Big(1) != 1 {
			t.Error(c.Err(), c.Left())
		}
		c.Fail(e)
		failed(t, c, e)
	}
}

func TestP2_1EmptyCursor(t *testing.T) {
	for name, c := range map[string]*Cursor{"nil bytes": New(nil), "no bytes": New([]byte{}), "zero": {}} {
		if c.Left() != 0 || c.Err() != api.OK || len(c.Bytes(0)) != 0 || c.Err() != api.OK {
			t.Error(name, c.Left(), c.Err())
		}
		c.Bytes(1)
		failed(t, c, api.ErrShort)
	}
}

func TestP2_1NilCursor(t *testing.T) {
	var c *Cursor
	failed(t, c, api.ErrArg)
}

// What is handed in is neither changed nor kept, its spare room neither; what is answered is new.
func TestP2_1Memory(t *testing.T) {
	room := []byte{1, 2, 3, 4}
	in := room[:3]
	c := New(in)
	in[1] = 99
	got := c.Bytes(2)
	if !bytes.Equal(got, []byte{1, 2}) {
		t.Error("kept what was handed in", got)
	}
	_ = append(got, 77)
	if v := c.Big(1); v != 3 {
		t.Error("answered memory of its own", v)
	}
	if !bytes.Equal(room, []byte{1, 99, 3, 4}) {
		t.Error("changed what was handed in", room)
	}
	Big(room, 0, 4)
	Little(room, 0, 4)
	if !bytes.Equal(room, []byte{1, 99, 3, 4}) {
		t.Error("changed what was handed in", room)
	}
}

func TestP2_1ObjectsOfTheirOwn(t *testing.T) {
	b := []byte{1, 2}
	x, y := New(b), New(b)
	x.Bytes(1)
	x.Fail(api.ErrForm)
	if y.Left() != 2 || y.Err() != api.OK {
		t.Error(y.Left(), y.Err())
	}
}

// What is put is read as it was: at any place, by the functions and by a cursor.
func TestP2_2(t *testing.T) {
	rnd := rand.New(rand.NewSource(22))
	for n := 1; n <= 4; n++ {
		for _, v := range []int{0, 1, 127, 128, 255, 1<<(8*n) - 1, 1 << (8*n - 1), rnd.Intn(1 << (8 * n)), rnd.Intn(1 << (8 * n))} {
			high, low := PutBig(n, v), PutLittle(n, v)
			b := slices.Concat([]byte{9}, high, low)
			if got, e := Big(b, 1, n); got != v || e != api.OK {
				t.Error("Big", n, v, got, e)
			}
			if got, e := Little(b, 1+n, n); got != v || e != api.OK {
				t.Error("Little", n, v, got, e)
			}
			c := New(b)
			if c.Bytes(1); c.Big(n) != v || c.Little(n) != v || c.Left() != 0 || c.Err() != api.OK {
				t.Error("cursor", n, v, c.Left(), c.Err())
			}
		}
	}
}

// A cursor tells just the bytes that are there, in their order, until it fails; then nothing.
func TestP2_3(t *testing.T) {
	rnd := rand.New(rand.NewSource(23))
	for range 2000 {
		b := make([]byte, rnd.Intn(20))
		rnd.Read(b)
		c := New(b)
		at, want := 0, api.OK
		for range 30 {
			n, kind := rnd.Intn(6), rnd.Intn(3)
			switch {
			case want != api.OK:
			case kind > 0 && (n < 1 || n > 4):
				want = api.ErrArg
			case n > len(b)-at:
				want = api.ErrShort
			}
			var part []byte
			if want == api.OK {
				part = b[at : at+n]
				at += n
			}
			told(t, c, kind, n, part)
			left := len(b) - at
			if want != api.OK {
				left = 0
			}
			if c.Err() != want || c.Left() != left {
				t.Fatal(c.Err(), c.Left(), "not", want, left)
			}
		}
	}
}

// told holds what a cursor tells of the next n bytes against them; of none, against nothing.
func told(t *testing.T, c *Cursor, kind, n int, part []byte) {
	t.Helper()
	switch kind {
	case 0:
		if got := c.Bytes(n); !bytes.Equal(got, part) {
			t.Fatal("Bytes", n, got, part)
		}
	case 1:
		if got := c.Big(n); got != value(part) {
			t.Fatal("Big", n, got, part)
		}
	default:
		if got := c.Little(n); got != value(turned(part)) {
			t.Fatal("Little", n, got, part)
		}
	}
}
