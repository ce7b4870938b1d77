package chunk

import (
	"bytes"
	"math/rand"
	"slices"
	"testing"

	"halftone/api"
)

// cases are rows of chunks: right ones, such as are cut off, and such as have an error of each kind.
func cases(rnd *rand.Rand) [][]byte {
	right := row(slowChunk("IHDR", some(rnd, 13)), slowChunk("IDAT", some(rnd, 9)), slowChunk("IDAT", nil), iend)
	wrongSum := slowChunk("IDAT", []byte{1, 2, 3})
	wrongSum[13]++
	return [][]byte{
		nil,
		eight[:5],
		row(),
		row(iend),
		right,
		right[:len(right)-2],
		right[:40],
		{137, 80, 78, 70, 13, 10, 26, 10},
		row(iend, iend, wrongSum, iend),
		row(iend, wrongSum[:14]),
		row(slowChunk("IDAT", []byte{9}), word(api.MaxFile+1), []byte("IDAT")),
		row(slowChunk("IDAT", []byte{9}), slowChunk("ID4T", []byte{9}), iend),
		row(word(api.MaxFile), []byte("IDAT"), some(rnd, 20)),
	}
}

// what is all that a row of pushes told: the chunks, whether the last one ended, the error, and Between.
type what struct {
	list    []api.Chunk
	ended   bool
	e       api.Errno
	between bool
}

func (w what) same(o what) bool {
	return slices.EqualFunc(w.list, o.list, sameChunk) && w.ended == o.ended && w.e == o.e && w.between == o.between
}

// all pushes b, cut at these places.
func all(t *testing.T, b []byte, cuts ...int) what {
	t.Helper()
	r := New()
	var w what
	var pieces []api.Piece
	from := 0
	for _, to := range append(slices.Clone(cuts), len(b)) {
		more, e := r.Push(b[from:to])
		pieces = append(pieces, more...)
		w.e = e
		from = to
	}
	w.list, w.ended = chunks(t, pieces)
	w.between = r.Between()
	return w
}

// However bytes are cut, the same chunks are told, the same error, and every push tells what it should.
func cutAlike(t *testing.T, b []byte, cuts ...int) {
	t.Helper()
	if one, other := all(t, b), all(t, b, cuts...); !one.same(other) {
		t.Fatal(cuts, other, "not", one)
	}
	asSlow(t, b, cuts...)
}

func TestP11_2EveryCut(t *testing.T) {
	for _, b := range cases(rand.New(rand.NewSource(211))) {
		cutAlike(t, b)
		cutAlike(t, b, singly(b)...)
		for i := range len(b) + 1 {
			cutAlike(t, b, i)
			cutAlike(t, b, i, i)
			for j := i; j <= len(b); j++ {
				cutAlike(t, b, i, j)
			}
		}
	}
}

func TestP11_2ManyParts(t *testing.T) {
	rnd := rand.New(rand.NewSource(212))
	for range 300 {
		b := mustPack(t, anyChunks(rnd, 5, 200))
		cutAlike(t, b, singly(b)...)
		for range 10 {
			cutAlike(t, b, anyhow(rnd, b)...)
		}
	}
}

// Rows with bytes that are other ones, left out, or put in.
func TestP11_2SpoiltRows(t *testing.T) {
	rnd := rand.New(rand.NewSource(213))
	met := map[api.Errno]int{}
	for range 4000 {
		b := mustPack(t, anyChunks(rnd, 4, 30))
		for range 1 + rnd.Intn(2) {
			at := rnd.Intn(len(b))
			switch rnd.Intn(4) {
			case 0:
				b[at] = byte(rnd.Intn(256))
			case 1:
				b[at] ^= 1 << rnd.Intn(8)
			case 2:
				b = slices.Delete(b, at, at+1)
			case 3:
				b = slices.Insert(b, at, byte(rnd.Intn(256)))
			}
		}
		met[all(t, b).e]++
		cutAlike(t, b, singly(b)...)
		cutAlike(t, b, anyhow(rnd, b)...)
	}
	for _, e := range []api.Errno{api.OK, api.ErrForm, api.ErrLong, api.ErrSum} {
		if met[e] == 0 {
			t.Error("no row with", e)
		}
	}
}

// Any bytes, behind the eight and without them.
func TestP11_2AnyBytes(t *testing.T) {
	rnd := rand.New(rand.NewSource(214))
	for range 3000 {
		b := some(rnd, rnd.Intn(60))
		for i := range b {
			if rnd.Intn(3) > 0 {
				b[i] = letters[rnd.Intn(len(letters))]
			}
			if rnd.Intn(3) == 0 {
				b[i] = 0
			}
		}
		cutAlike(t, b, anyhow(rnd, b)...)
		cutAlike(t, row(b), anyhow(rnd, row(b))...)
		cutAlike(t, row(word(uint32(rnd.Intn(20))), []byte(anyKind(rnd)), b), 8+rnd.Intn(8))
	}
}

func TestP11_3ThereAndBack(t *testing.T) {
	rnd := rand.New(rand.NewSource(221))
	lists := [][]api.Chunk{
		nil,
		{{Kind: "IEND"}},
		{{Kind: "AZaz"}, {Kind: "zaZA", Data: []byte{0}}, {Kind: "AZaz"}},
		{{Kind: "IDAT", Data: some(rnd, api.MaxFile-20)}},
		{{Kind: "IDAT", Data: eight}, {Kind: "IDAT", Data: iend}, {Kind: "IEND"}},
	}
	for range 400 {
		lists = append(lists, anyChunks(rnd, 8, 500))
	}
	for _, list := range lists {
		b := mustPack(t, list)
		cuts := [][]int{nil, {len(b) / 2}, {len(b) / 3, len(b) - 3}, anyhow(rnd, b)}
		if len(b) < 5000 {
			cuts = append(cuts, singly(b))
		}
		want := what{list, true, api.OK, true}
		for _, c := range cuts {
			if got := all(t, b, c...); !got.same(want) {
				t.Fatal(c, got, "not", want)
			}
		}
	}
}

// turn turns the bits of a pattern from one place on (layer 1's bits: the lowest of a byte first).
func turn(b []byte, at int, pattern uint32) []byte {
	out := slices.Clone(b)
	for i := range 32 {
		if pattern>>i&1 == 1 {
			out[(at+i)/8] ^= 1 << ((at + i) % 8)
		}
	}
	return out
}

// neverEnds fails if a chunk of which bits were turned ends, in one push or in single bytes.
func neverEnds(t *testing.T, spoilt []byte) {
	t.Helper()
	for _, cuts := range [][]int{nil, singly(spoilt)} {
		got := all(t, spoilt, cuts...)
		if got.ended && len(got.list) > 1 || got.between || got.e != api.ErrSum && got.e != api.ErrForm {
			t.Fatal(spoilt, got)
		}
	}
}

// The chunk ahead of the spoilt one, and the one behind it, are right.
func spoiltIn(t *testing.T, kind string, data []byte, turned func(c []byte) []byte) {
	t.Helper()
	c := slowChunk(kind, data)
	neverEnds(t, row(iend, turned(c), iend))
}

// Every pattern of up to three bits, and many others, at every place of kind and data, and of the sum.
func TestP11_4TurnedBits(t *testing.T) {
	rnd := rand.New(rand.NewSource(231))
	for _, data := range [][]byte{nil, {0}, {255, 1}, some(rnd, 11)} {
		c := slowChunk("tEXt", data)
		kindAndData, sum, end := 8*4, 8*(8+len(data)), 8*len(c)
		for _, part := range [][2]int{{kindAndData, sum}, {sum, end}} {
			for at := part[0]; at < part[1]; at++ {
				width := min(32, part[1]-at)
				mask := uint32(1<<width - 1)
				patterns := []uint32{1, mask}
				for i := range width {
					patterns = append(patterns, 1|1<<i, 1|1<<i|1<<(i/2))
				}
				for range 20 {
					patterns = append(patterns, 1|rnd.Uint32()&mask)
				}
				for _, p := range patterns {
					spoiltIn(t, "tEXt", data, func(c []byte) []byte { return turn(c, at, p) })
				}
			}
		}
	}
}

// Letters that become other letters leave the kind right: the sum alone tells it.
func TestP11_4OtherLetters(t *testing.T) {
	for i := range 4 {
		for v := range len(letters) {
			kind := []byte("IDAT")
			if kind[i] == letters[v] {
				continue
			}
			kind[i] = letters[v]
			c := slowChunk("IDAT", []byte{7, 8, 9})
			copy(c[4:], kind)
			got := all(t, row(c))
			if got.e != api.ErrSum || got.ended || len(got.list) != 1 || got.list[0].Kind != string(kind) {
				t.Fatal(string(kind), got)
			}
		}
	}
}

// In a long chunk too, and however far from its end.
func TestP11_4LongChunk(t *testing.T) {
	rnd := rand.New(rand.NewSource(232))
	data := some(rnd, 3000)
	c := slowChunk("IDAT", data)
	for range 300 {
		at := 8*8 + rnd.Intn(8*len(data)-31)
		spoilt := turn(c, at, 1|rnd.Uint32())
		if bytes.Equal(spoilt, c) {
			t.Fatal("nothing is turned")
		}
		got := all(t, row(spoilt), rnd.Intn(len(c)))
		if got.e != api.ErrSum || got.ended {
			t.Fatal(at, got.e)
		}
	}
}
