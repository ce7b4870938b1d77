package lzw

import (
	"bytes"
	std "compress/lzw"
	"io"
	"math"
	"math/rand"
	"slices"
	"testing"

	"halftone/api"
)

var wrongLeasts = []int{math.MinInt, -1 << 32, -8, -1, 0, 1, 9, 10, 12, 63, 64, 65, 1<<32 + 2, math.MaxInt}

// all pushes parts, up to the first error: all that is said then.
func all(least, limit int, parts ...[]byte) result {
	d := New(least, limit)
	var r result
	for _, b := range parts {
		told, e := d.Push(b)
		r.told = append(r.told, told...)
		if r.e = e; e != api.OK {
			break
		}
	}
	r.done, r.rest = d.Done(), d.Rest()
	return r
}

// single is each byte alone.
func single(b []byte) [][]byte {
	var parts [][]byte
	for i := range b {
		parts = append(parts, b[i:i+1])
	}
	return parts
}

// some is n random bytes of so many letters.
func some(rnd *rand.Rand, n, letters int) []byte {
	b := make([]byte, n)
	for i := range b {
		b[i] = byte(rnd.Intn(letters))
	}
	return b
}

// texts are some whose bytes are all roots; the longer ones fill the table, some of them more than once.
func texts(rnd *rand.Rand, least int) [][]byte {
	roots := 1 << least
	rows := make([]byte, 9000)
	for i := range rows {
		rows[i] = byte(i / 30 % 3)
	}
	return [][]byte{
		nil, {0}, {1}, {byte(roots - 1)}, {1, 1}, {1, 0, 1, 0, 1}, {1, 1, 1, 1},
		make([]byte, 5), make([]byte, 100), make([]byte, 30000), rows,
		some(rnd, 20, roots), some(rnd, 300, roots), some(rnd, 5000, 2), some(rnd, 20000, roots), some(rnd, 40000, 3),
	}
}

// rootsRow is n codes that are roots.
func rootsRow(rnd *rand.Rand, least, n int) []int {
	row := make([]int, n)
	for i := range row {
		row[i] = rnd.Intn(1 << least)
	}
	return row
}

func holds(t *testing.T, got, want result, what ...any) {
	t.Helper()
	if !got.same(want) {
		t.Fatal(what, "told", len(got.told), "not", len(want.told), "error", got.e, "not", want.e,
			"done", got.done, "not", want.done, "rest", got.rest, "not", want.rest)
	}
}

func TestP9_1Example(t *testing.T) {
	b, e := Pack([]byte{1, 1, 1, 1}, 2, 0)
	if !bytes.Equal(b, []byte{140, 83}) || e != api.OK {
		t.Fatal(b, e)
	}
	codes, widths := codesOf(b, 2)
	if !slices.Equal(codes, []int{4, 1, 6, 1, 5}) || !slices.Equal(widths, []int{3, 3, 3, 3, 4}) {
		t.Error(codes, widths)
	}
	holds(t, all(2, 4, b), result{told: []byte{1, 1, 1, 1}, done: true})
}

func TestP9_1WrongLeast(t *testing.T) {
	for _, least := range wrongLeasts {
		for _, b := range [][]byte{nil, {}, {140, 83}, make([]byte, 100)} {
			for _, limit := range []int{-1, 0, 100} {
				d := New(least, limit)
				for range 3 {
					if told, e := d.Push(b); len(told) != 0 || e != api.ErrArg {
						t.Error(least, told, e)
					}
					if d.Done() || len(d.Rest()) != 0 {
						t.Error(least, d.Rest())
					}
				}
			}
		}
	}
	for least := 2; least <= 8; least++ {
		if told, e := New(least, 9).Push(nil); len(told) != 0 || e != api.OK {
			t.Error(least, told, e)
		}
	}
}

func TestP9_1NilDecoder(t *testing.T) {
	var d *Decoder
	for _, b := range [][]byte{nil, {140, 83}, {255}} {
		if told, e := d.Push(b); len(told) != 0 || e != api.ErrArg {
			t.Error(told, e)
		}
		if d.Done() || len(d.Rest()) != 0 {
			t.Error(d.Rest())
		}
	}
}

// A decoder that nobody made has no least bits.
func TestP9_1ZeroDecoder(t *testing.T) {
	d := &Decoder{}
	if told, e := d.Push([]byte{140, 83}); len(told) != 0 || e != api.ErrArg || d.Done() || len(d.Rest()) != 0 {
		t.Error(told, e)
	}
}

// Each code that a first one can be, at the very beginning, behind a clear, behind two, and behind other codes and a clear.
func TestP9_1EveryFirst(t *testing.T) {
	for least := 2; least <= 8; least++ {
		roots := 1 << least
		for _, ahead := range [][]int{nil, {roots}, {roots, roots}, {1, 1, roots}, {roots, 1, 0, roots + 2, roots}} {
			// Ending in end, so that no nought behind is taken for a code.
			told := slow(coded(least, append(slices.Clone(ahead), roots+1)...).Out(), least, 100).told
			for code := range 2 * roots {
				b := coded(least, append(slices.Clone(ahead), code)...).Out()
				got := all(least, 100, b)
				holds(t, got, slow(b, least, 100), least, ahead, code)
				switch {
				case code < roots && !bytes.HasPrefix(got.told, append(slices.Clone(told), byte(code))):
					t.Fatal(least, ahead, code, got.told)
				case code > roots+1 && (got.e != api.ErrSymbol || !bytes.Equal(got.told, told)):
					t.Fatal(least, ahead, code, got.e)
				case code == roots+1 && !got.done:
					t.Fatal(least, ahead, code)
				}
			}
		}
	}
}

// A code that is the number of codes in the table is told; one above it is refused; so is every other one that the width can write.
func TestP9_1AtTheTablesEnd(t *testing.T) {
	rnd := rand.New(rand.NewSource(91))
	for least := 2; least <= 8; least++ {
		further := 1<<least + 2
		counts := []int{further, further + 1, further + 2}
		for w := least + 1; w <= 12; w++ {
			counts = append(counts, 1<<w-3, 1<<w-2, 1<<w-1, 1<<w, 1<<w+1)
		}
		for _, count := range counts {
			if count < further || count > 4095 {
				continue
			}
			// Of so many roots all but the first one bring a text in.
			ahead := rootsRow(rnd, least, count-further+1)
			var told []byte
			for _, v := range ahead {
				told = append(told, byte(v))
			}
			last := told[len(told)-1]
			row := coded(least, append(slices.Clone(ahead), count, 1<<least+1)...).Out()
			holds(t, all(least, 1<<20, row), result{told: append(slices.Clone(told), last, last), done: true}, least, count)

			s := newSlowTable(least)
			for _, v := range ahead {
				s.read(v)
			}
			if len(s.texts) != count {
				t.Fatal(len(s.texts), count)
			}
			for _, code := range []int{count + 1, count + 2, 1<<s.width() - 1} {
				if code <= count || code >= 1<<s.width() {
					continue
				}
				row := coded(least, append(slices.Clone(ahead), code)...).Out()
				holds(t, all(least, 1<<20, row), result{told: told, e: api.ErrSymbol}, least, count, code)
			}
		}
	}
}

// Each code in a small table tells its text, and the next ones have what came in by it.
func TestP9_1EveryCode(t *testing.T) {
	for least := 2; least <= 8; least++ {
		ahead := []int{1, 1, 0, 1 << least, 1, 0, 1<<least + 2, 1, 1<<least + 4}
		for code := range 1<<least + 8 {
			for next := range 1<<least + 9 {
				b := coded(least, append(slices.Clone(ahead), code, next, 1<<least+1, 0)...).Out()
				holds(t, all(least, 1000, b), slow(b, least, 1000), least, code, next)
			}
		}
	}
}

// A table of 4096 codes: nothing comes into it any more, the codes have 12 bits, each of them may come, and clear ends it.
func TestP9_1FullTable(t *testing.T) {
	rnd := rand.New(rand.NewSource(92))
	for least := 2; least <= 8; least++ {
		roots := 1 << least
		fill := 4096 - (roots + 2) + 1
		codes := append([]int{roots}, rootsRow(rnd, least, fill)...)
		s := newSlowTable(least)
		var want []byte
		for _, v := range codes[1:] {
			told, _ := s.read(v)
			want = append(want, told...)
		}
		if len(s.texts) != 4096 {
			t.Fatal(len(s.texts))
		}
		kept := slices.Clone(s.texts)
		for _, v := range []int{4095, 4094, 0, roots - 1, roots + 2, 4095, 4095, 2048, 2047, 3000} {
			codes = append(codes, v)
			want = append(want, kept[v]...)
		}
		for range 3000 {
			v := rnd.Intn(4096)
			if v == roots || v == roots+1 {
				continue
			}
			codes = append(codes, v)
			want = append(want, kept[v]...)
		}
		// Behind clear the width is the least one again, and what was learned is gone.
		codes = append(codes, roots, 1, roots+2, roots+3)
		want = append(want, 1, 1, 1, 1, 1, 1)
		good := coded(least, append(slices.Clone(codes), roots+1)...).Out()
		holds(t, all(least, len(want), good), result{told: want, done: true}, least)
		bad := coded(least, append(slices.Clone(codes), roots+6)...).Out()
		holds(t, all(least, len(want), bad), result{told: want, e: api.ErrSymbol}, least)
	}
}

// A table that grows by texts of its own, each one byte longer than the one ahead, up to 4096 codes and behind.
func TestP9_1LongestTexts(t *testing.T) {
	for _, least := range []int{2, 5, 8} {
		codes := []int{1 << least, 3}
		var want []byte
		want = append(want, 3)
		for code := 1<<least + 2; code < 4096; code++ {
			codes = append(codes, code)
			want = append(want, bytes.Repeat([]byte{3}, code-1<<least)...)
		}
		codes = append(codes, 4095, 1<<least+1)
		want = append(want, bytes.Repeat([]byte{3}, 4095-1<<least)...)
		holds(t, all(least, len(want), coded(least, codes...).Out()), result{told: want, done: true}, least)
	}
}

func TestP9_1Clear(t *testing.T) {
	for least := 2; least <= 8; least++ {
		roots := 1 << least
		for name, c := range map[string]struct {
			codes []int
			want  result
		}{
			"alone":              {slices.Repeat([]int{roots}, 8), result{}},
			"none ahead":         {[]int{1, 1, roots + 1}, result{told: []byte{1, 1}, done: true}},
			"in the middle":      {[]int{roots, 1, 1, roots, 0, 0, roots + 1}, result{told: []byte{1, 1, 0, 0}, done: true}},
			"twice":              {[]int{roots, roots, 1, roots, roots, 0, roots + 1}, result{told: []byte{1, 0}, done: true}},
			"ahead of end":       {[]int{1, roots, roots + 1}, result{told: []byte{1}, done: true}},
			"texts anew":         {[]int{roots, 1, 1, roots, 0, roots + 2, roots + 1}, result{told: []byte{1, 1, 0, 0, 0}, done: true}},
			"texts are gone":     {[]int{1, 1, 1, roots, 0, roots + 3}, result{told: []byte{1, 1, 1, 0}, e: api.ErrSymbol}},
			"no text behind":     {[]int{1, 1, 1, roots, roots + 2}, result{told: []byte{1, 1, 1}, e: api.ErrSymbol}},
			"width is the least": {[]int{1, 1, 1, 1, 1, 1, 1, 1, roots, 1, roots + 1}, result{told: bytes.Repeat([]byte{1}, 9), done: true}},
		} {
			if got := all(least, 100, coded(least, c.codes...).Out()); !got.same(c.want) {
				t.Error(least, name, got, c.want)
			}
		}
	}
}

// Whatever bits stand behind end, up to the next byte's beginning, are let go; the bytes behind them are Rest's, pushed with it or later.
func TestP9_1End(t *testing.T) {
	aligned := map[int]bool{}
	for least := 2; least <= 8; least++ {
		for n := range 20 {
			codes := make([]int, n)
			w := coded(least, append(codes, 1<<least+1)...)
			spare := (8 - w.Len()%8) % 8
			aligned[spare] = true
			want := result{told: make([]byte, n), done: true}
			for _, filling := range []int{0, -1, 0x55} {
				w := coded(least, append(codes, 1<<least+1)...)
				w.Put(filling, spare)
				b := w.Out()
				holds(t, all(least, n, b), want, least, n)
				for _, rest := range [][]byte{{0}, {255, 1, 2}, b} {
					full := want
					full.rest = rest
					holds(t, all(least, n, slices.Concat(b, rest)), full, least, n)
					holds(t, all(least, n, b, rest), full, least, n)
					holds(t, all(least, n, single(slices.Concat(b, rest))...), full, least, n)
				}
			}
		}
	}
	if len(aligned) != 8 {
		t.Error(aligned)
	}
}

// Not ahead of end's last bit.
func TestP9_1NotDone(t *testing.T) {
	for least := 2; least <= 8; least++ {
		b := coded(least, 1<<least, 1, 1, 1, 1, 1<<least+1).Out()
		holds(t, all(least, 100, b[:len(b)-1]), slow(b[:len(b)-1], least, 100), least)
		holds(t, all(least, 100, coded(least, 1, 1).Out()), slow(coded(least, 1, 1).Out(), least, 100), least)
		d := New(least, 100)
		for _, v := range b {
			if d.Done() || len(d.Rest()) != 0 {
				t.Fatal(least)
			}
			d.Push([]byte{v})
		}
		if !d.Done() {
			t.Fatal(least)
		}
	}
}

func TestP9_1Limit(t *testing.T) {
	// Codes of 1, 2, 3 and 4 bytes, and a root.
	codes := []int{4, 1, 6, 7, 8, 0, 5}
	text := []byte{1, 1, 1, 1, 1, 1, 1, 1, 1, 1, 0}
	b := append(coded(2, codes...).Out(), 77)
	for _, limit := range []int{math.MinInt, -1, 0, 1, 2, 3, 4, 5, 6, 7, 8, 9, 10, 11, 12, math.MaxInt} {
		want := result{told: text, done: true, rest: []byte{77}}
		if most := max(limit, 0); most < len(text) {
			want = result{told: text[:most], e: api.ErrLong}
		}
		holds(t, all(2, limit, b), want, limit)
		holds(t, all(2, limit, single(b)...), want, limit)
	}
	// No byte is beyond the limit as long as none is told.
	holds(t, all(2, 0, coded(2, 4, 4, 5).Out()), result{done: true})
	// The limit is reached, and the next code is refused for what it is.
	holds(t, all(2, 1, coded(2, 1, 7).Out()), result{told: []byte{1}, e: api.ErrSymbol})
	holds(t, all(2, 0, coded(2, 7).Out()), result{e: api.ErrSymbol})
}

func TestP9_1BehindAnError(t *testing.T) {
	for name, c := range map[string]struct {
		b     []byte
		limit int
		e     api.Errno
	}{
		"symbol": {coded(2, 4, 1, 7).Out(), 100, api.ErrSymbol},
		"long":   {coded(2, 4, 1, 1, 1).Out(), 2, api.ErrLong},
	} {
		d := New(2, c.limit)
		if _, e := d.Push(c.b); e != c.e {
			t.Fatal(name, e)
		}
		for _, b := range [][]byte{nil, {}, {0}, {140, 83}, c.b, coded(2, 4, 5).Out(), make([]byte, 50)} {
			if told, e := d.Push(b); len(told) != 0 || e != c.e {
				t.Error(name, told, e)
			}
			if d.Done() || len(d.Rest()) != 0 {
				t.Error(name, d.Rest())
			}
		}
	}
}

func TestP9_1BehindTheEnd(t *testing.T) {
	d := New(2, 4)
	d.Push([]byte{140, 83})
	var rest []byte
	for _, b := range [][]byte{nil, {140, 83}, {}, {255}, {6, 6, 6}} {
		rest = append(rest, b...)
		if told, e := d.Push(b); len(told) != 0 || e != api.OK || !d.Done() || !bytes.Equal(d.Rest(), rest) {
			t.Error(told, e, d.Rest())
		}
	}
}

// Any bytes at all.
func TestP9_1RandomBytes(t *testing.T) {
	rnd := rand.New(rand.NewSource(93))
	met := map[api.Errno]int{}
	done := 0
	for range 60000 {
		least, limit := 2+rnd.Intn(7), rnd.Intn(60)-2
		b := some(rnd, rnd.Intn(40), 256)
		got := all(least, limit, b)
		holds(t, got, slow(b, least, limit), least, limit, b)
		met[got.e]++
		if got.done {
			done++
		}
	}
	if met[api.OK] < 100 || met[api.ErrSymbol] < 100 || met[api.ErrLong] < 100 || done < 100 {
		t.Error(met, done)
	}
}

// Any codes that may stand where they do, and one bit turned.
func TestP9_1RandomCodes(t *testing.T) {
	rnd := rand.New(rand.NewSource(94))
	for range 300 {
		least := 2 + rnd.Intn(7)
		s := newSlowTable(least)
		var codes []int
		for range rnd.Intn(9000) {
			code := rnd.Intn(len(s.texts) + 1)
			switch {
			case rnd.Intn(4000) == 0:
				codes = append(codes, 1<<least)
				s.empty()
				continue
			case code == 1<<least, code == 1<<least+1, code == 4096:
				continue
			case s.ahead == "":
				code = rnd.Intn(1 << least)
			}
			s.read(code)
			codes = append(codes, code)
		}
		codes = append(codes, 1<<least+1)
		b := coded(least, codes...).Out()
		want := slow(b, least, math.MaxInt)
		if !want.done {
			t.Fatal("no end")
		}
		holds(t, all(least, math.MaxInt, b), want, least)
		b[rnd.Intn(len(b))] ^= 1 << rnd.Intn(8)
		holds(t, all(least, math.MaxInt, b), slow(b, least, math.MaxInt), least)
	}
}

// What the library writes is read.
func TestP9_1OfTheLibrary(t *testing.T) {
	rnd := rand.New(rand.NewSource(95))
	for least := 2; least <= 8; least++ {
		for _, text := range texts(rnd, least) {
			var out bytes.Buffer
			w := std.NewWriter(&out, std.LSB, least)
			w.Write(text)
			w.Close()
			holds(t, all(least, len(text), out.Bytes()), result{told: text, done: true}, least, len(text))
		}
	}
}

// What is written is read by the library.
func TestP9_3ByTheLibrary(t *testing.T) {
	rnd := rand.New(rand.NewSource(96))
	for least := 2; least <= 8; least++ {
		for _, text := range texts(rnd, least) {
			for _, late := range []int{0, 1, 500, math.MaxInt} {
				b, _ := Pack(text, least, late)
				got, err := io.ReadAll(std.NewReader(bytes.NewReader(b), std.LSB, least))
				if err != nil || !bytes.Equal(got, text) {
					t.Fatal(least, len(text), late, err)
				}
			}
		}
	}
}
