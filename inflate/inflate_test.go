package inflate

import (
	"bytes"
	"compress/flate"
	"io"
	"math"
	"math/rand"
	"slices"
	"testing"

	"halftone/api"
)

// all is what a decoder tells of bytes that come in parts, and how it stands then.
func all(limit int, parts ...[]byte) ([]byte, api.Errno, *Decoder) {
	d := New(limit)
	var text []byte
	e := api.OK
	for _, p := range parts {
		var b []byte
		b, e = d.Push(p)
		text = append(text, b...)
	}
	return text, e, d
}

// single is the bytes one by one.
func single(b []byte) [][]byte {
	var parts [][]byte
	for i := range b {
		parts = append(parts, b[i:i+1])
	}
	return parts
}

// stands holds a decoder against what it should be.
func stands(t *testing.T, d *Decoder, done bool, rest []byte, total int) {
	t.Helper()
	if d.Done() != done || !bytes.Equal(d.Rest(), rest) || d.Total() != total {
		t.Fatalf("Done %v, Rest %v, Total %d, not %v, %v, %d", d.Done(), d.Rest(), d.Total(), done, rest, total)
	}
}

// tells holds that packed bytes tell their text, in one and byte by byte, each item as soon as its bits are there, and what the library reads of them.
func tells(t *testing.T, p *packed) {
	t.Helper()
	b := p.Out()
	text, e, d := all(math.MaxInt, b)
	if !bytes.Equal(text, p.text) || e != api.OK {
		t.Fatalf("%d bytes and %d, not %d", len(text), e, len(p.text))
	}
	stands(t, d, p.done, nil, len(p.text))
	d = New(len(p.text))
	for i := range b {
		was := d.Total()
		got, e := d.Push(b[i : i+1])
		if want := p.text[was:p.toldAt(8*i+8)]; !bytes.Equal(got, want) || e != api.OK {
			t.Fatalf("byte %d tells %v and %d, not %v", i, got, e, want)
		}
		stands(t, d, p.done && i == len(b)-1, nil, p.toldAt(8*i+8))
	}
	if !p.done {
		return
	}
	lib, err := io.ReadAll(flate.NewReader(bytes.NewReader(b)))
	if err != nil || !bytes.Equal(lib, p.text) {
		t.Fatal("the library reads it otherwise:", err)
	}
}

// fails holds that packed bytes tell their text and then answer an error, as soon as the last of their bits is there, not ahead of that, and for ever.
func fails(t *testing.T, name string, p *packed, limit int, want api.Errno) {
	t.Helper()
	b := p.Out()
	last := len(b) - 1
	if _, e, _ := all(limit, b[:last]); e != api.OK {
		t.Fatalf("%s: %d ahead of the last byte", name, e)
	}
	for _, parts := range [][][]byte{{b}, {b[:last], b[last:]}, single(b), {append(slices.Clone(b), 255, 0, 255, 1, 2, 3)}} {
		text, e, d := all(limit, parts...)
		if !bytes.Equal(text, p.text) || e != want {
			t.Fatalf("%s: %v and %d, not %v and %d", name, text, e, p.text, want)
		}
		for _, more := range [][]byte{{1, 1, 0, 254, 255, 7}, nil, {0}, {255, 255}} {
			stands(t, d, false, nil, len(p.text))
			if b, e := d.Push(more); len(b) != 0 || e != want {
				t.Fatalf("%s: behind the error %v and %d", name, b, e)
			}
		}
	}
}

// shifted begins, in each of the ways in which a block may lie in its bytes, and tells something ahead.
func shifted() []*packed {
	var ps []*packed
	for n := range 8 {
		p := pack()
		p.fixed(false)
		for range n {
			p.lit(200)
		}
		p.end()
		ps = append(ps, p)
	}
	return ps
}

// eachShift holds a fault in every place of a byte.
func eachShift(t *testing.T, name string, want api.Errno, fault func(p *packed)) {
	t.Helper()
	for _, p := range append(shifted(), pack()) {
		fault(p)
		fails(t, name, p, math.MaxInt, want)
	}
}

func TestP6_1Examples(t *testing.T) {
	text, e, d := all(10, []byte{1, 1, 0, 254, 255, 7})
	if string(text) != "\x07" || e != api.OK {
		t.Error(text, e)
	}
	stands(t, d, true, nil, 1)
	text, e, d = all(10, []byte{75, 4, 0})
	if string(text) != "a" || e != api.OK {
		t.Error(text, e)
	}
	stands(t, d, true, nil, 1)
	text, e, d = all(10, []byte{7})
	if len(text) != 0 || e != api.ErrForm {
		t.Error(text, e)
	}
	stands(t, d, false, nil, 0)
}

func TestP6_1NoBytes(t *testing.T) {
	for _, limit := range []int{math.MinInt, -1, 0, 1, math.MaxInt} {
		d := New(limit)
		stands(t, d, false, nil, 0)
		if b, e := d.Push(nil); len(b) != 0 || e != api.OK {
			t.Error(limit, b, e)
		}
		stands(t, d, false, nil, 0)
	}
}

func TestP6_1NilDecoder(t *testing.T) {
	var d *Decoder
	for _, b := range [][]byte{nil, {}, {75, 4, 0}, {7}} {
		if text, e := d.Push(b); len(text) != 0 || e != api.ErrArg {
			t.Error(text, e)
		}
	}
	stands(t, d, false, nil, 0)
}

func TestP6_1ZeroDecoder(t *testing.T) {
	d := &Decoder{}
	if b, e := d.Push([]byte{3, 0, 9}); len(b) != 0 || e != api.OK {
		t.Error(b, e)
	}
	stands(t, d, true, []byte{9}, 0)
}

func TestP6_1Stored(t *testing.T) {
	rnd := rand.New(rand.NewSource(61))
	for _, n := range []int{0, 1, 2, 255, 256, 257, 32768, 65534, 65535} {
		b := make([]byte, n)
		rnd.Read(b)
		for _, p := range append(shifted(), pack()) {
			p.stored(false, nil)
			p.stored(false, b)
			p.stored(true, b)
			tells(t, p)
		}
	}
}

// The bits up to the byte's beginning mean nothing.
func TestP6_1StoredBehindAnyBits(t *testing.T) {
	for bits := range 32 {
		text, e, d := all(9, []byte{byte(bits<<3 | 1), 2, 0, 253, 255, 8, 9, 10})
		if string(text) != "\x08\x09" || e != api.OK {
			t.Error(bits, text, e)
		}
		stands(t, d, true, []byte{10}, 2)
	}
}

func TestP6_1StoredSizesThatDontFit(t *testing.T) {
	for _, both := range [][2]int{{0, 0}, {1, 65533}, {1, 65535}, {0, 65534}, {65535, 1}, {65535, 65535}, {256, 65534 - 256}, {7, 7}, {1, 65534 ^ 256}} {
		eachShift(t, "sizes", api.ErrStored, func(p *packed) {
			p.head(true, 0)
			p.Align()
			p.sizes(both[0], both[1])
		})
	}
}

func TestP6_1KindThree(t *testing.T) {
	for _, last := range []bool{false, true} {
		eachShift(t, "kind 3", api.ErrForm, func(p *packed) { p.head(last, 3) })
	}
}

func TestP6_1FixedLiterals(t *testing.T) {
	for b := range 256 {
		p := pack()
		p.fixed(false)
		p.write("ab")
		p.lit(byte(b))
		p.write("c")
		p.end()
		p.fixed(true)
		p.lit(byte(b))
		p.end()
		tells(t, p)
	}
}

func TestP6_1EveryLength(t *testing.T) {
	p := pack()
	p.fixed(true)
	p.write("some text")
	for k := range lengthLeast {
		for _, more := range []int{0, 1 << lengthBits[k] / 2, 1<<lengthBits[k] - 1} {
			for _, j := range []int{0, 1, 6} {
				p.againBy(k, more, j, 0)
				p.write("x")
			}
		}
	}
	p.end()
	tells(t, p)
	for length := 3; length <= 258; length++ {
		p := pack()
		p.fixed(true)
		p.write("xyz")
		p.again(length, 2)
		p.end()
		if tells(t, p); len(p.text) != 3+length {
			t.Error(length)
		}
	}
}

func TestP6_1EveryDistance(t *testing.T) {
	rnd := rand.New(rand.NewSource(62))
	far := make([]byte, api.Reach)
	rnd.Read(far)
	p := pack()
	p.stored(false, far)
	p.fixed(true)
	for j := range distanceLeast {
		for _, more := range []int{0, 1 << distanceBits[j] / 2, 1<<distanceBits[j] - 1} {
			p.againBy(rnd.Intn(8), 0, j, more)
			p.lit(byte(j))
		}
	}
	p.end()
	tells(t, p)
}

// A copy tells what it has told itself, where it reaches into that.
func TestP6_1CopiesThatReachIntoThemselves(t *testing.T) {
	for distance := 1; distance <= 7; distance++ {
		p := pack()
		p.fixed(true)
		p.write("abcdefg"[:distance])
		p.again(258, distance)
		p.again(3, 258)
		p.end()
		tells(t, p)
		if want := bytes.Repeat([]byte("abcdefg"[:distance]), 300)[:258+distance]; !bytes.Equal(p.text[:len(want)], want) {
			t.Error(distance)
		}
	}
}

// The greatest length from the greatest distance, while the bytes so far back are gone over.
func TestP6_1FarthestCopies(t *testing.T) {
	rnd := rand.New(rand.NewSource(63))
	b := make([]byte, api.Reach)
	for _, ahead := range []int{0, 1, 258, 32768, 40000} {
		p := pack()
		if ahead > 0 {
			p.stored(false, bytes.Repeat([]byte{7}, ahead))
		}
		rnd.Read(b)
		p.stored(false, b)
		p.fixed(true)
		for range 300 {
			p.again(258, api.Reach)
			p.again(3+rnd.Intn(200), api.Reach-rnd.Intn(300))
		}
		p.end()
		tells(t, p)
	}
}

func TestP6_1FartherThanTold(t *testing.T) {
	for told := range 5 {
		p := pack()
		p.fixed(true)
		p.write("abcde"[:told])
		p.length(0, 0)
		k := at(distanceLeast, told+1)
		p.distance(k, told+1-distanceLeast[k])
		fails(t, "one too far", p, 1000, api.ErrFar)
		p = pack()
		p.fixed(true)
		p.write("abcde"[:told])
		p.length(28, 0)
		p.distance(29, 8191)
		// The distance counts first: the limit would be passed by the first byte.
		fails(t, "the farthest", p, told, api.ErrFar)
	}
	for _, told := range []int{256, 32767} {
		p := pack()
		p.stored(false, make([]byte, told))
		p.fixed(true)
		p.length(3, 0)
		k := at(distanceLeast, told+1)
		p.distance(k, told+1-distanceLeast[k])
		fails(t, "one too far", p, math.MaxInt, api.ErrFar)
	}
}

func TestP6_1FixedSymbolsWithoutMeaning(t *testing.T) {
	for _, sym := range []int{286, 287} {
		eachShift(t, "literal", api.ErrSymbol, func(p *packed) {
			p.fixed(true)
			p.write("ab")
			p.word(p.lits, sym)
		})
	}
	for _, sym := range []int{30, 31} {
		eachShift(t, "distance", api.ErrSymbol, func(p *packed) {
			p.fixed(false)
			p.write("ab")
			p.length(0, 0)
			p.word(p.dists, sym)
		})
	}
}

func TestP6_1ToldCounts(t *testing.T) {
	for literals := 257; literals <= 288; literals++ {
		for distances := 1; distances <= 32; distances++ {
			p := pack()
			p.head(true, 2)
			p.counts(literals, distances, 4+(literals+distances)%16)
			if literals > 286 || distances > 30 {
				fails(t, "counts", p, 9, api.ErrCode)
				continue
			}
			p.codeLens(map[int]int{0: 1, 18: 1}, 4)
			if text, e, _ := all(9, p.Out()); len(text) != 0 || e != api.OK {
				t.Error(literals, distances, text, e)
			}
		}
	}
}

func TestP6_1ToldCodeLengths(t *testing.T) {
	for name, lens := range map[string]map[int]int{
		"no word": {}, "one of two bits": {0: 2}, "too few": {0: 1, 18: 2}, "too many": {0: 1, 17: 1, 18: 1}, "far too many": {0: 1, 16: 1, 17: 1, 18: 1},
	} {
		eachShift(t, name, api.ErrCode, func(p *packed) {
			p.head(false, 2)
			p.counts(257, 1, 4)
			p.codeLens(lens, 4)
		})
	}
	for _, n := range []int{5, 18, 19} {
		eachShift(t, "no word", api.ErrCode, func(p *packed) {
			p.head(true, 2)
			p.counts(260, 3, n)
			p.codeLens(nil, n)
		})
	}
}

// Each number of code lengths, and each length in its place: a row of 256, 1 and 1, by a code of just what is needed.
func TestP6_1ToldCodeLengthsInTheirOrder(t *testing.T) {
	for length := 1; length <= 15; length++ {
		n := slices.Index(order, length) + 1
		p := pack()
		p.head(true, 2)
		p.counts(257, 1, n)
		c := p.codeLens(map[int]int{18: 1, 0: 2, length: 2}, n)
		p.word(c, 18)
		p.Put(127, 7)
		p.word(c, 18)
		p.Put(256-138-11, 7)
		p.word(c, length)
		p.word(c, 0)
		if length == 1 {
			p.Put(0, 1) // the word of 256
			p.done = true
			tells(t, p)
			continue
		}
		// The row is no code, but all of it was read.
		fails(t, "one long word", p, 9, api.ErrCode)
	}
}

func TestP6_1ToldCodeOfOneWord(t *testing.T) {
	// Nothing but noughts: 256 has no word then. The other bit is no word's.
	for name, want := range map[string]api.Errno{"noughts": api.ErrCode, "no word": api.ErrSymbol} {
		eachShift(t, name, want, func(p *packed) {
			p.head(true, 2)
			p.counts(257, 1, 4)
			p.codeLens(map[int]int{0: 1}, 4)
			p.Put(0, 7)
			if want == api.ErrSymbol {
				p.Put(1, 1)
				return
			}
			for range 251 {
				p.Put(0, 1)
			}
		})
	}
}

func TestP6_1LastLengthAgainWithoutOne(t *testing.T) {
	eachShift(t, "16 first", api.ErrCode, func(p *packed) {
		p.head(true, 2)
		p.counts(257, 1, 19)
		p.word(p.codeLens(allCodeLens(), 19), 16)
	})
}

// The last length goes over from the literals to the distances, and may be 0.
func TestP6_1LastLengthAgain(t *testing.T) {
	p := pack()
	p.head(true, 2)
	p.counts(258, 4, 19)
	c := p.codeLens(allCodeLens(), 19)
	p.word(c, 2)
	p.word(c, 2)
	p.word(c, 17)
	p.Put(0, 3)
	p.word(c, 16)
	p.Put(2, 2)
	p.word(c, 18)
	p.Put(127, 7)
	p.word(c, 18)
	p.Put(256-2-3-5-138-11, 7)
	p.word(c, 2)
	p.word(c, 16)
	p.Put(2, 2) // 257's, and the distances'
	p.lits, p.dists = code(append(append([]int{2, 2}, make([]int, 254)...), 2, 2)), code(flat(4, 2))
	p.write("\x00\x01\x00")
	p.again(3, 3)
	p.end()
	tells(t, p)
}

func TestP6_1MoreLengthsThanThereShouldBe(t *testing.T) {
	for _, by := range []struct{ sym, bits, least, most int }{{16, 2, 3, 6}, {17, 3, 3, 10}, {18, 7, 11, 138}} {
		for _, n := range []int{by.least, by.most} {
			for room := n - 2; room <= n; room++ {
				p := pack()
				p.head(true, 2)
				p.counts(257, 30, 19)
				c := p.codeLens(allCodeLens(), 19)
				// By the room that is left: noughts, but for 256's word and another one.
				for i := range 287 - room {
					p.word(c, min(1, max(0, i-254)*max(0, 257-i)))
				}
				p.word(c, by.sym)
				p.Put(n-by.least, by.bits)
				switch {
				case room < n:
					fails(t, "too many", p, 9, api.ErrCode)
				case by.sym == 18 && n == 138:
					fails(t, "256 has no word", p, 9, api.ErrCode)
				default:
					p.Put(1, 1) // the word of 256
					p.done = true
					tells(t, p)
				}
			}
		}
	}
}

// rows puts a told block's two rows, as they are, be they codes or not.
func rows(p *packed, lits, dists []int) {
	p.head(true, 2)
	p.counts(len(lits), len(dists), 19)
	c := p.codeLens(allCodeLens(), 19)
	for _, n := range append(slices.Clone(lits), dists...) {
		p.word(c, n)
	}
}

// with is a row of n noughts but for some lengths of symbols.
func with(n int, lens map[int]int) []int {
	row := make([]int, n)
	for sym, length := range lens {
		row[sym] = length
	}
	return row
}

func TestP6_1RowsThatAreNoCodes(t *testing.T) {
	for name, f := range map[string]struct{ lits, dists []int }{
		"no word for 256":          {with(258, map[int]int{0: 1, 257: 1}), []int{1}},
		"no word at all":           {with(257, nil), []int{1}},
		"literals too few":         {with(257, map[int]int{0: 2, 256: 1}), []int{1}},
		"literals too many":        {with(257, map[int]int{0: 1, 1: 1, 256: 1}), []int{1}},
		"one literal of two bits":  {with(257, map[int]int{256: 2}), []int{1}},
		"distances too few":        {with(257, map[int]int{256: 1}), []int{1, 2}},
		"distances too many":       {with(257, map[int]int{256: 1}), []int{1, 1, 1}},
		"one distance of two bits": {with(257, map[int]int{256: 1}), []int{0, 2}},
		"one distance of 15 bits":  {with(257, map[int]int{256: 1}), []int{15}},
	} {
		eachShift(t, name, api.ErrCode, func(p *packed) { rows(p, f.lits, f.dists) })
	}
}

// Of a row with one word alone the other bit means nothing; of one with none, each.
func TestP6_1FewDistances(t *testing.T) {
	lits := with(258, map[int]int{97: 2, 98: 2, 256: 2, 257: 2})
	for _, sym := range []int{0, 1, 29} {
		row := make([]int, sym+1)
		row[sym] = 1
		if sym < 2 {
			p := pack()
			p.told(true, lits, row, nil)
			p.write("ab")
			p.again(3, sym+1)
			p.end()
			tells(t, p)
		}
		eachShift(t, "the other bit", api.ErrSymbol, func(p *packed) {
			p.told(true, lits, row, nil)
			p.write("abba")
			p.length(0, 0)
			p.Put(1, 1)
		})
	}
	for bit := range 2 {
		eachShift(t, "no distance", api.ErrSymbol, func(p *packed) {
			p.told(true, lits, []int{0}, nil)
			p.write("abba")
			p.length(0, 0)
			p.Put(bit, 1)
		})
	}
	p := pack()
	p.told(true, lits, make([]int, 30), nil)
	p.write("abba")
	p.end()
	tells(t, p)
}

// One literal's word alone: the other bit means nothing.
func TestP6_1OnlyTheEnd(t *testing.T) {
	only := with(257, map[int]int{256: 1})
	p := pack()
	p.told(true, only, []int{0}, nil)
	p.end()
	tells(t, p)
	eachShift(t, "the other bit", api.ErrSymbol, func(p *packed) {
		p.told(true, only, []int{0}, nil)
		p.Put(1, 1)
	})
}

func TestP6_1SomeBlocks(t *testing.T) {
	rnd := rand.New(rand.NewSource(64))
	for range 300 {
		tells(t, some(rnd, 1+rnd.Intn(6)))
	}
}

// What the library packs is read, and of changed bytes just what the library reads whole.
func TestP6_1LikeTheLibrary(t *testing.T) {
	rnd := rand.New(rand.NewSource(65))
	for level := flate.HuffmanOnly; level <= flate.BestCompression; level++ {
		for _, text := range texts(rnd) {
			b := lib(text, level)
			got, e, d := all(len(text), b)
			if !bytes.Equal(got, text) || e != api.OK {
				t.Fatal(level, e)
			}
			stands(t, d, true, nil, len(text))
		}
	}
	whole := 0
	for range 5000 {
		b := some(rnd, 1+rnd.Intn(2)).Out()
		for range 1 + rnd.Intn(3) {
			b[rnd.Intn(len(b))] ^= 1 << rnd.Intn(8)
		}
		in := bytes.NewReader(b)
		want, err := io.ReadAll(flate.NewReader(in))
		got, e, d := all(math.MaxInt, b)
		if d.Done() != (err == nil) || d.Done() && (e != api.OK || !bytes.Equal(got, want) || !bytes.Equal(d.Rest(), b[len(b)-in.Len():])) {
			t.Fatal(b, err, e)
		}
		if d.Done() {
			whole++
		}
	}
	if whole < 300 {
		t.Error("too few were still whole:", whole)
	}
}

func texts(rnd *rand.Rand) [][]byte {
	even := make([]byte, 100000)
	for i := range even {
		even[i] = byte(i / 7 % 251)
	}
	any := make([]byte, 70000)
	rnd.Read(any)
	few := make([]byte, 50000)
	for i := range few {
		few[i] = "abc "[rnd.Intn(4)]
	}
	return [][]byte{nil, []byte("a"), even, any, few, make([]byte, 200000)}
}

func lib(text []byte, level int) []byte {
	var out bytes.Buffer
	w, err := flate.NewWriter(&out, level)
	if err != nil {
		panic(err)
	}
	w.Write(text)
	w.Close()
	return out.Bytes()
}

// Each limit, so that it is reached amid copies, stored blocks and literals: what is told up to it is told still.
func TestP6_1EveryLimit(t *testing.T) {
	rnd := rand.New(rand.NewSource(66))
	for range 20 {
		p := some(rnd, 1+rnd.Intn(4))
		b := p.Out()
		for limit := range min(len(p.text)+2, 600) {
			for _, parts := range [][][]byte{{b}, single(b)} {
				text, e, d := all(limit, parts...)
				if limit >= len(p.text) {
					if !bytes.Equal(text, p.text) || e != api.OK {
						t.Fatal(limit, e)
					}
					stands(t, d, true, nil, len(p.text))
					continue
				}
				if !bytes.Equal(text, p.text[:limit]) || e != api.ErrLong {
					t.Fatal(limit, len(text), e)
				}
				stands(t, d, false, nil, limit)
			}
		}
	}
}

func TestP6_1LimitsNamed(t *testing.T) {
	for _, limit := range []int{0, -1, math.MinInt} {
		p := pack()
		p.fixed(true)
		p.word(p.lits, 97)
		fails(t, "a literal", p, limit, api.ErrLong)
		p = pack()
		p.stored(true, nil)
		if text, e, d := all(limit, p.Out()); len(text) != 0 || e != api.OK || !d.Done() {
			t.Error(limit, text, e)
		}
		p = pack()
		p.head(true, 0)
		p.Align()
		p.sizes(1, 65534)
		p.Put(5, 8)
		fails(t, "a stored byte", p, limit, api.ErrLong)
	}
	p := pack()
	p.fixed(true)
	p.write("ab")
	p.length(7, 0)
	p.distance(1, 0)
	p.text = []byte("ababa")
	fails(t, "amid a copy", p, 5, api.ErrLong)
	p = pack()
	p.head(true, 0)
	p.Align()
	p.sizes(9, 65526)
	p.raw([]byte{1, 2, 3})
	p.Put(4, 8)
	fails(t, "amid a stored block", p, 3, api.ErrLong)
}

// Bytes that end too early are no error: more of them may come.
func TestP6_1TooFewBytes(t *testing.T) {
	rnd := rand.New(rand.NewSource(67))
	for range 30 {
		p := some(rnd, 1+rnd.Intn(3))
		b := p.Out()
		for n := range b {
			text, e, d := all(math.MaxInt, b[:n])
			if want := p.text[:p.toldAt(8*n)]; !bytes.Equal(text, want) || e != api.OK {
				t.Fatal(n, len(text), len(want), e)
			}
			stands(t, d, false, nil, p.toldAt(8*n))
		}
	}
}
