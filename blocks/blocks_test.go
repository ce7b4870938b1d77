package blocks

import (
	"bytes"
	"math"
	"math/rand"
	"slices"
	"testing"

	"halftone/api"
)

// result is all that a reader says.
type result struct {
	told []byte
	done bool
	rest []byte
	seen int
}

func (r result) same(o result) bool {
	return bytes.Equal(r.told, o.told) && r.done == o.done && bytes.Equal(r.rest, o.rest) && r.seen == o.seen
}

// slow takes bytes apart that are all there.
func slow(b []byte) result {
	var r result
	for at := 0; at < len(b); {
		size := int(b[at])
		at++
		if size == 0 {
			return result{told: r.told, done: true, rest: b[at:], seen: at}
		}
		end := min(at+size, len(b))
		r.told = append(r.told, b[at:end]...)
		at = end
	}
	r.seen = len(b)
	return r
}

// all pushes parts: all that is said then.
func all(parts ...[]byte) result {
	r := New()
	var told []byte
	for _, b := range parts {
		told = append(told, r.Push(b)...)
	}
	return result{told, r.Done(), r.Rest(), r.Seen()}
}

// single is each byte alone.
func single(b []byte) [][]byte {
	var parts [][]byte
	for i := range b {
		parts = append(parts, b[i:i+1])
	}
	return parts
}

func holds(t *testing.T, got, want result, what ...any) {
	t.Helper()
	if !got.same(want) {
		t.Fatal(what, got, "not", want)
	}
}

// some is n random bytes.
func some(rnd *rand.Rand, n int) []byte {
	b := make([]byte, n)
	for i := range b {
		b[i] = byte(rnd.Intn(256))
	}
	return b
}

// up is the bytes from first on, each one more than the one ahead.
func up(first, n int) []byte {
	b := make([]byte, n)
	for i := range b {
		b[i] = byte(first + i)
	}
	return b
}

func TestP10_1Example(t *testing.T) {
	b, e := Pack([]byte{7, 8, 9}, 2)
	if !bytes.Equal(b, []byte{2, 7, 8, 1, 9, 0}) || e != api.OK {
		t.Fatal(b, e)
	}
	r := New()
	if told := r.Push(b); !bytes.Equal(told, []byte{7, 8, 9}) {
		t.Error(told)
	}
	if !r.Done() || r.Seen() != 6 || len(r.Rest()) != 0 {
		t.Error(r.Done(), r.Seen(), r.Rest())
	}
}

func TestP10_1WrongSize(t *testing.T) {
	for _, size := range []int{math.MinInt, -256, -255, -1, 0, 256, 257, 511, 512, 1<<32 + 1, math.MaxInt} {
		for _, b := range [][]byte{nil, {}, {7}, make([]byte, 300)} {
			if out, e := Pack(b, size); len(out) != 0 || e != api.ErrArg {
				t.Error(size, out, e)
			}
		}
	}
}

func TestP10_1PackNothing(t *testing.T) {
	for size := 1; size <= 255; size++ {
		for _, b := range [][]byte{nil, {}} {
			if out, e := Pack(b, size); !bytes.Equal(out, []byte{0}) || e != api.OK {
				t.Error(size, out, e)
			}
		}
	}
}

// Every size, with texts about one, two and three blocks long.
func TestP10_1PackEverySize(t *testing.T) {
	for size := 1; size <= 255; size++ {
		for _, n := range []int{1, 2, size - 1, size, size + 1, 2*size - 1, 2 * size, 2*size + 1, 3 * size} {
			text := up(size, n)
			var want []byte
			for at := 0; at < n; at++ {
				if at%size == 0 {
					want = append(want, byte(min(size, n-at)))
				}
				want = append(want, text[at])
			}
			want = append(want, 0)
			if b, e := Pack(text, size); !bytes.Equal(b, want) || e != api.OK {
				t.Fatal(size, n, b, e)
			}
		}
	}
}

func TestP10_1NamedPacks(t *testing.T) {
	one := up(1, 255)
	for name, c := range map[string]struct {
		text []byte
		size int
		want []byte
	}{
		"size 1":                  {[]byte{5, 0, 5}, 1, []byte{1, 5, 1, 0, 1, 5, 0}},
		"just one block":          {[]byte{5, 6}, 2, []byte{2, 5, 6, 0}},
		"less than one block":     {[]byte{5, 6}, 9, []byte{2, 5, 6, 0}},
		"one byte more":           {[]byte{5, 6, 7}, 2, []byte{2, 5, 6, 1, 7, 0}},
		"size 255":                {one, 255, slices.Concat([]byte{255}, one, []byte{0})},
		"size 255, one byte more": {append(slices.Clone(one), 3), 255, slices.Concat([]byte{255}, one, []byte{1, 3, 0})},
		"noughts":                 {[]byte{0, 0, 0}, 2, []byte{2, 0, 0, 1, 0, 0}},
	} {
		if b, e := Pack(c.text, c.size); !bytes.Equal(b, c.want) || e != api.OK {
			t.Error(name, b, e)
		}
	}
}

func TestP10_1Read(t *testing.T) {
	long := up(9, 255)
	for name, c := range map[string]struct {
		b    []byte
		want result
	}{
		"nothing":             {nil, result{}},
		"the end at once":     {[]byte{0}, result{done: true, seen: 1}},
		"the end, and behind": {[]byte{0, 0, 2, 1}, result{done: true, rest: []byte{0, 2, 1}, seen: 1}},
		"a size alone":        {[]byte{3}, result{seen: 1}},
		"within a block":      {[]byte{3, 0, 8}, result{told: []byte{0, 8}, seen: 3}},
		"a block, no end":     {[]byte{2, 0, 8}, result{told: []byte{0, 8}, seen: 3}},
		"blocks of all kinds": {[]byte{1, 0, 3, 1, 2, 3, 2, 0, 0, 0}, result{told: []byte{0, 1, 2, 3, 0, 0}, done: true, seen: 10}},
		"bytes behind":        {[]byte{1, 4, 0, 1, 5, 0}, result{told: []byte{4}, done: true, rest: []byte{1, 5, 0}, seen: 3}},
		"the longest block":   {slices.Concat([]byte{255}, long, []byte{0, 6}), result{told: long, done: true, rest: []byte{6}, seen: 257}},
	} {
		for _, parts := range [][][]byte{{c.b}, single(c.b), {nil, c.b, nil}} {
			if got := all(parts...); !got.same(c.want) {
				t.Error(name, got, c.want)
			}
		}
	}
}

// A new reader has read nothing.
func TestP10_1New(t *testing.T) {
	holds(t, all(), result{})
	holds(t, all(nil, []byte{}), result{})
	r := &Reader{}
	if told := r.Push([]byte{1, 7, 0, 9}); !bytes.Equal(told, []byte{7}) || !r.Done() || !bytes.Equal(r.Rest(), []byte{9}) || r.Seen() != 3 {
		t.Error(told)
	}
}

func TestP10_1NilReader(t *testing.T) {
	var r *Reader
	for _, b := range [][]byte{nil, {0}, {1, 7, 0, 9}} {
		if told := r.Push(b); len(told) != 0 || r.Done() || len(r.Rest()) != 0 || r.Seen() != 0 {
			t.Error(told)
		}
	}
}

// Behind the end all is rest, and Seen counts none of it.
func TestP10_1BehindTheEnd(t *testing.T) {
	r := New()
	r.Push([]byte{1, 7, 0, 5})
	rest := []byte{5}
	for _, b := range [][]byte{nil, {1, 8, 0}, {}, {0}, {255}} {
		rest = append(rest, b...)
		if told := r.Push(b); len(told) != 0 || !r.Done() || r.Seen() != 3 || !bytes.Equal(r.Rest(), rest) {
			t.Error(told, r.Seen(), r.Rest())
		}
	}
}

// A byte is told as soon as it is there, and seen: after every byte all that its bytes alone say.
func TestP10_2AsItComes(t *testing.T) {
	rnd := rand.New(rand.NewSource(111))
	for range 300 {
		b := some(rnd, rnd.Intn(400))
		for i := range b {
			b[i] %= byte(1 + rnd.Intn(40))
		}
		r := New()
		var told []byte
		for i := range b {
			told = append(told, r.Push(b[i:i+1])...)
			holds(t, result{told, r.Done(), r.Rest(), r.Seen()}, slow(b[:i+1]), i)
		}
	}
}

// cases are rows of blocks: whole, cut off, and with bytes behind.
func cases(rnd *rand.Rand) [][]byte {
	rows := [][]byte{
		nil, {0}, {0, 1, 2}, {2, 7, 8, 1, 9, 0}, {2, 7, 8, 1, 9, 0, 2, 0, 0, 0}, {1, 0, 1, 0, 1, 0, 0, 0},
		slices.Concat([]byte{255}, up(0, 255), []byte{1, 1, 0, 3}),
	}
	for _, size := range []int{1, 3, 200, 255} {
		b, _ := Pack(some(rnd, 600), size)
		rows = append(rows, b, b[:len(b)-1], b[:len(b)/2], append(slices.Clone(b), b...))
	}
	return rows
}

func TestP10_2EveryCut(t *testing.T) {
	for _, b := range cases(rand.New(rand.NewSource(112))) {
		want := slow(b)
		holds(t, all(b), want)
		holds(t, all(single(b)...), want)
		for i := range len(b) + 1 {
			holds(t, all(b[:i], b[i:]), want, i)
			holds(t, all(b[:i], nil, b[i:], nil), want, i)
		}
	}
}

// Cut into three at all places of short rows, and into parts of any size.
func TestP10_2ManyParts(t *testing.T) {
	rnd := rand.New(rand.NewSource(113))
	for _, b := range cases(rnd) {
		want := slow(b)
		if len(b) < 20 {
			for i := range len(b) + 1 {
				for j := i; j <= len(b); j++ {
					holds(t, all(b[:i], b[i:j], b[j:]), want, i, j)
				}
			}
		}
		for range 50 {
			most := 1 + rnd.Intn(300)
			var parts [][]byte
			for left := b; len(left) > 0; {
				n := min(rnd.Intn(most+1), len(left))
				parts = append(parts, left[:n])
				left = left[n:]
			}
			holds(t, all(parts...), want)
		}
	}
}

func TestP10_3ThereAndBack(t *testing.T) {
	rnd := rand.New(rand.NewSource(114))
	for size := 1; size <= 255; size++ {
		for _, n := range []int{0, 1, size - 1, size, size + 1, 2 * size, 1000} {
			text := some(rnd, n)
			b, e := Pack(text, size)
			if e != api.OK {
				t.Fatal(size, n, e)
			}
			want := result{told: text, done: true, seen: len(b)}
			holds(t, all(b), want, size, n)
			holds(t, all(single(b)...), want, size, n)
			want.rest = []byte{0, 9}
			holds(t, all(append(b, 0, 9)), want, size, n)
		}
	}
}

// What is handed in stays as it was, its spare room too, and is not kept; what is answered is new.
func TestP10_1Handed(t *testing.T) {
	text := up(3, 700)
	room := append(slices.Clone(text), 200, 201, 202)
	before := slices.Clone(room)
	b, e := Pack(room[:len(text)], 100)
	if e != api.OK || !bytes.Equal(room, before) {
		t.Fatal("changed by Pack", e)
	}
	kept := slices.Clone(b)
	clear(room)
	if !bytes.Equal(b, kept) {
		t.Fatal("shared by Pack")
	}
	full := append(slices.Clone(b), 7, 7, 7)
	for _, n := range []int{1, 2, 50, 101, len(full)} {
		r := New()
		var told []byte
		for at := 0; at < len(full); at += n {
			part := full[at:min(at+n, len(full))]
			room := append(slices.Clone(part), 11, 12, 13)
			before := slices.Clone(room)
			more := r.Push(room[:len(part)])
			if !bytes.Equal(room, before) {
				t.Fatal("changed by Push")
			}
			told = append(told, more...)
			clear(more[:cap(more)])
			if !bytes.Equal(room, before) {
				t.Fatal("shared by Push")
			}
			clear(room)
		}
		if !bytes.Equal(told, text) || !bytes.Equal(r.Rest(), []byte{7, 7, 7}) {
			t.Fatal("kept by Push", n)
		}
		rest := r.Rest()
		clear(rest)
		r.Push([]byte{1})
		if !bytes.Equal(rest, []byte{0, 0, 0}) || !bytes.Equal(r.Rest(), []byte{7, 7, 7, 1}) {
			t.Fatal("Rest is shared")
		}
	}
}

// Readers of their own don't depend on one another.
func TestP10_1TwoReaders(t *testing.T) {
	one, two := New(), New()
	one.Push([]byte{3, 1})
	two.Push([]byte{0, 5})
	if told := one.Push([]byte{2, 0, 0}); !bytes.Equal(told, []byte{2, 0}) || !one.Done() || len(one.Rest()) != 0 || one.Seen() != 5 {
		t.Error(told)
	}
	if !two.Done() || two.Seen() != 1 || !bytes.Equal(two.Rest(), []byte{5}) {
		t.Error(two.Seen(), two.Rest())
	}
}
