package huff

import (
	"math"
	"math/rand"
	"slices"
	"strconv"
	"strings"
	"testing"

	"halftone/api"
	"halftone/bits"
)

// told are the words as the chapter says them, as texts of noughts and ones: each further one is the one ahead and 1, filled up behind.
func told(lens []int) []string {
	out := make([]string, len(lens))
	last := ""
	for length := 1; length <= api.MaxBits; length++ {
		for sym, n := range lens {
			if n != length {
				continue
			}
			if last == "" {
				last = strings.Repeat("0", length)
			} else {
				last = plusOne(last)
				last += strings.Repeat("0", length-len(last))
			}
			out[sym] = last
		}
	}
	return out
}

// plusOne is the number of a text of bits, and 1, in as many bits.
func plusOne(s string) string {
	b := []byte(s)
	for i := len(b) - 1; i >= 0; i-- {
		if b[i] == '0' {
			b[i] = '1'
			return string(b)
		}
		b[i] = '0'
	}
	return "1" + string(b)
}

// spoken is a word as Word answers it, as a text whose first bit stands first.
func spoken(v, n int) string {
	s := ""
	for range n {
		s += strconv.Itoa(v % 2)
		v /= 2
	}
	return s
}

// fed is a reader that has just the bits of a text: what fills the first byte up ahead of them is taken.
func fed(row string) *bits.Reader {
	w := bits.NewWriter()
	ahead := (8 - len(row)%8) % 8
	w.Put(0x55, ahead)
	for _, b := range row {
		w.Put(int(b-'0'), 1)
	}
	r := bits.New()
	r.Feed(w.Out())
	r.Take(ahead)
	return r
}

// left are the bits that a reader has, without taking them.
func left(r *bits.Reader) string {
	s := ""
	for i := range r.Have() {
		s += strconv.Itoa(r.Look(i))
	}
	return s
}

// read is what the chapter asks of Next for words and bits: the symbol, the error, the bits that are left.
func read(words []string, row string) (int, api.Errno, string) {
	for sym, w := range words {
		if w != "" && strings.HasPrefix(row, w) {
			return sym, api.OK, row[len(w):]
		}
	}
	for _, w := range words {
		if w != "" && strings.HasPrefix(w, row) {
			return 0, api.ErrShort, row
		}
	}
	if row == "" {
		return 0, api.ErrShort, row
	}
	return 0, api.ErrSymbol, row
}

func holdNext(t *testing.T, c *Code, words []string, row string) {
	t.Helper()
	r := fed(row)
	sym, e := c.Next(r)
	wantSym, wantE, wantLeft := read(words, row)
	if sym != wantSym || e != wantE || left(r) != wantLeft {
		t.Fatalf("bits %s of words %v: %d, %d, left %s; not %d, %d, %s", row, words, sym, e, left(r), wantSym, wantE, wantLeft)
	}
}

// grown are lengths of a code of n words: one of them, again and again, is made two of one bit more.
func grown(rnd *rand.Rand, n int) []int {
	lens := []int{1, 1}
	for len(lens) < n {
		i := rnd.Intn(len(lens))
		if lens[i] < api.MaxBits {
			lens[i]++
			lens = append(lens, lens[i])
		}
	}
	return lens
}

// spread are lengths with noughts among them, in some order.
func spread(rnd *rand.Rand, lens []int, noughts int) []int {
	out := append(slices.Clone(lens), make([]int, noughts)...)
	rnd.Shuffle(len(out), func(i, j int) { out[i], out[j] = out[j], out[i] })
	return out
}

// longest are lengths 1, 2, .., 15, 15.
func longest() []int {
	var lens []int
	for n := 1; n <= api.MaxBits; n++ {
		lens = append(lens, n)
	}
	return append(lens, api.MaxBits)
}

// codes are lengths that are a code's: the edges, and some others.
func codes() map[string][]int {
	rnd := rand.New(rand.NewSource(51))
	m := map[string][]int{
		"example":       {2, 1, 0, 2},
		"none":          {},
		"all 0":         {0, 0, 0},
		"288 of 0":      make([]int, api.MaxSymbols),
		"one":           {1},
		"one behind":    {0, 0, 1},
		"one amid":      {0, 1, 0},
		"two":           {1, 1},
		"two apart":     {1, 0, 0, 1},
		"longest":       longest(),
		"longest first": append([]int{15, 15}, 14, 13, 12, 11, 10, 9, 8, 7, 6, 5, 4, 3, 2, 1),
		"256 of 8":      slices.Repeat([]int{8}, 256),
		"fixed":         fixed(),
		"last one":      append(make([]int, api.MaxSymbols-1), 1),
	}
	for n := 2; n <= api.MaxSymbols; n += 1 + n/3 {
		m["grown "+strconv.Itoa(n)] = spread(rnd, grown(rnd, n), min(n, api.MaxSymbols-n))
	}
	m["grown 288"] = grown(rnd, api.MaxSymbols)
	return m
}

// fixed are the lengths of packed bytes' fixed literals.
func fixed() []int {
	lens := slices.Repeat([]int{8}, 144)
	lens = append(lens, slices.Repeat([]int{9}, 112)...)
	lens = append(lens, slices.Repeat([]int{7}, 24)...)
	return append(lens, slices.Repeat([]int{8}, 8)...)
}

func made(t *testing.T, lens []int) *Code {
	t.Helper()
	c, e := New(lens)
	if c == nil || e != api.OK {
		t.Fatal(lens, c, e)
	}
	return c
}

func TestP5_1Examples(t *testing.T) {
	c := made(t, []int{2, 1, 0, 2})
	for sym, want := range [][2]int{{1, 2}, {0, 1}, {0, 0}, {3, 2}} {
		if v, n := c.Word(sym); v != want[0] || n != want[1] {
			t.Error(sym, v, n)
		}
	}
	r := fed("100011")
	for _, want := range []int{0, 1, 1, 3} {
		if sym, e := c.Next(r); sym != want || e != api.OK {
			t.Error(sym, want, e)
		}
	}
	if sym, e := c.Next(r); sym != 0 || e != api.ErrShort {
		t.Error(sym, e)
	}
}

func TestP5_1Words(t *testing.T) {
	for name, lens := range codes() {
		c := made(t, lens)
		for sym, want := range told(lens) {
			if v, n := c.Word(sym); spoken(v, n) != want || n != len(want) || v < 0 || v >= 1<<n {
				t.Errorf("%s: of %d %d, %d, not %s", name, sym, v, n, want)
			}
		}
		for _, sym := range []int{math.MinInt, -288, -2, -1, len(lens), len(lens) + 1, 288, 1 << 16, 1 << 32, math.MaxInt} {
			if v, n := c.Word(sym); v != 0 || n != 0 {
				t.Error(name, sym, v, n)
			}
		}
	}
}

func TestP5_1NewWrongArguments(t *testing.T) {
	for name, lens := range map[string][]int{
		"below 0":             {-1},
		"below 0 behind":      {1, 1, -1},
		"far below 0":         {1, 1, math.MinInt},
		"above most":          {16},
		"above most behind":   {1, 1, 16},
		"far above":           {math.MaxInt, 1},
		"such as 1 in a byte": {257, 1},
		"1 and 2^32":          {1<<32 + 1, 1},
		"no code either":      {1, 1, 1, 16},
		"289 of 0":            make([]int, api.MaxSymbols+1),
		"289 with a code":     append([]int{1, 1}, make([]int, api.MaxSymbols-1)...),
		"289 of 9":            slices.Repeat([]int{9}, api.MaxSymbols+1),
		"512 of 9":            slices.Repeat([]int{9}, 512),
	} {
		if c, e := New(lens); c != nil || e != api.ErrArg {
			t.Error(name, c, e)
		}
	}
}

func TestP5_1NewNoCode(t *testing.T) {
	for name, lens := range map[string][]int{
		"one of 2":            {2},
		"one of 2 amid":       {0, 2, 0},
		"one of 15":           {15},
		"three of 1":          {1, 1, 1},
		"too little":          {1, 2},
		"a little too little": append(longest()[:15:15], 0),
		"a little too much":   append(longest(), 15),
		"two of 2":            {2, 2},
		"two of 15":           {15, 15},
		"three of 2":          {2, 2, 2},
		"five of 2":           {2, 2, 2, 2, 2},
		"255 of 8":            slices.Repeat([]int{8}, 255),
		"257 of 8":            slices.Repeat([]int{8}, 257),
		"288 of 1":            slices.Repeat([]int{1}, 288),
		"288 of 9":            slices.Repeat([]int{9}, 288),
		"30 of 5":             slices.Repeat([]int{5}, 30),
		"two whole ones":      append(slices.Repeat([]int{1}, 2), slices.Repeat([]int{2}, 4)...),
	} {
		if c, e := New(lens); c != nil || e != api.ErrCode {
			t.Error(name, c, e)
		}
	}
}

// All lengths up to 4 of up to five symbols: a code's or not, as the chapter says it in fractions.
func TestP5_1NewEveryFew(t *testing.T) {
	for n := range 6 {
		for at := range int(math.Pow(5, float64(n))) {
			lens, share, words := make([]int, n), 0.0, 0
			for i := range lens {
				lens[i] = at % 5
				at /= 5
				if lens[i] > 0 {
					words++
					share += math.Pow(2, -float64(lens[i]))
				}
			}
			is := share == 1 || words == 1 && share == 0.5 || words == 0
			c, e := New(lens)
			if is && (c == nil || e != api.OK) || !is && (c != nil || e != api.ErrCode) {
				t.Fatal(lens, c, e)
			}
		}
	}
}

// Every row of up to ten bits, ahead of small codes.
func TestP5_1NextEveryRow(t *testing.T) {
	for _, lens := range [][]int{{}, {0, 0}, {1}, {0, 1}, {1, 1}, {2, 1, 0, 2}, {3, 3, 2, 1}, {2, 2, 2, 2}, {5, 5, 4, 3, 2, 0, 1}, longest()} {
		c, words := made(t, lens), told(lens)
		for n := range 11 {
			for v := range 1 << n {
				holdNext(t, c, words, spoken(v, n))
			}
		}
	}
}

// Of every word each beginning, the word itself, and more bits behind it.
func TestP5_1NextEveryBeginning(t *testing.T) {
	for _, lens := range codes() {
		c, words := made(t, lens), told(lens)
		for _, w := range words {
			for n := range len(w) + 1 {
				holdNext(t, c, words, w[:n])
			}
			holdNext(t, c, words, w+"0")
			holdNext(t, c, words, w+"1")
			holdNext(t, c, words, w+w)
		}
	}
}

func TestP5_1NextOfOneWord(t *testing.T) {
	c := made(t, []int{0, 0, 1})
	for row, want := range map[string]api.Errno{"": api.ErrShort, "1": api.ErrSymbol, "10": api.ErrSymbol, "111111111": api.ErrSymbol} {
		r := fed(row)
		for range 3 {
			if sym, e := c.Next(r); sym != 0 || e != want || left(r) != row {
				t.Error(row, sym, e, left(r))
			}
		}
	}
	r := fed("001")
	for range 2 {
		if sym, e := c.Next(r); sym != 2 || e != api.OK {
			t.Error(sym, e)
		}
	}
	if sym, e := c.Next(r); sym != 0 || e != api.ErrSymbol || left(r) != "1" {
		t.Error(sym, e, left(r))
	}
}

func TestP5_1NilAndWordless(t *testing.T) {
	for name, c := range map[string]*Code{"nil": nil, "zero": {}, "of nothing": made(t, nil), "of noughts": made(t, make([]int, 5))} {
		for _, row := range []string{"0", "1", "00", "01", "1111111111111111"} {
			r := fed(row)
			if sym, e := c.Next(r); sym != 0 || e != api.ErrSymbol || left(r) != row {
				t.Error(name, row, sym, e, left(r))
			}
		}
		for _, r := range []*bits.Reader{nil, {}, bits.New()} {
			if sym, e := c.Next(r); sym != 0 || e != api.ErrShort {
				t.Error(name, sym, e)
			}
		}
		for _, sym := range []int{math.MinInt, -1, 0, 1, 4, 5, math.MaxInt} {
			if v, n := c.Word(sym); v != 0 || n != 0 {
				t.Error(name, sym, v, n)
			}
		}
	}
}

func TestP5_1ReaderWithoutBits(t *testing.T) {
	for name, lens := range codes() {
		c := made(t, lens)
		for _, r := range []*bits.Reader{nil, {}, bits.New()} {
			if sym, e := c.Next(r); sym != 0 || e != api.ErrShort {
				t.Error(name, sym, e)
			}
		}
	}
}

// A word that ends too early is read once the rest of it has come.
func TestP5_1NextGoesOn(t *testing.T) {
	c := made(t, longest())
	r := bits.New()
	for i := range 2 {
		if sym, e := c.Next(r); sym != 0 || e != api.ErrShort || r.Have() != 8*i {
			t.Fatal(i, sym, e, r.Have())
		}
		r.Feed([]byte{255})
	}
	if sym, e := c.Next(r); sym != 15 || e != api.OK || r.Have() != 1 {
		t.Error(sym, e, r.Have())
	}
}

func TestP5_1InputsStay(t *testing.T) {
	for name, lens := range codes() {
		room := append(slices.Clone(lens), 7, 7, 7)
		was := slices.Clone(room)
		c := made(t, room[:len(lens)])
		if !slices.Equal(room, was) {
			t.Fatal(name, "changed")
		}
		for i := range room {
			room[i] = 9
		}
		for sym, want := range told(lens) {
			if v, n := c.Word(sym); spoken(v, n) != want {
				t.Fatal(name, "kept", sym, v, n)
			}
		}
	}
	bad := []int{1, 1, 1, 16, 5}
	New(bad[:3])
	New(bad[:4])
	if !slices.Equal(bad, []int{1, 1, 1, 16, 5}) {
		t.Error(bad)
	}
}

// Codes of their own don't depend on one another, nor on how often one is asked.
func TestP5_1CodesApart(t *testing.T) {
	a, b := made(t, []int{1, 2, 2}), made(t, []int{2, 2, 1})
	for range 3 {
		if v, n := a.Word(0); v != 0 || n != 1 {
			t.Error(v, n)
		}
		if v, n := b.Word(0); v != 1 || n != 2 {
			t.Error(v, n)
		}
		holdNext(t, a, []string{"0", "10", "11"}, "10")
		holdNext(t, b, []string{"10", "11", "0"}, "10")
	}
}

func TestP5_2ThereAndBack(t *testing.T) {
	rnd := rand.New(rand.NewSource(52))
	for name, lens := range codes() {
		c := made(t, lens)
		var have, syms []int
		for sym, n := range lens {
			if n > 0 {
				have = append(have, sym)
			}
		}
		w := bits.NewWriter()
		for i := range 2000 {
			if len(have) == 0 {
				break
			}
			sym := have[i%len(have)]
			if i >= len(have) {
				sym = have[rnd.Intn(len(have))]
			}
			syms = append(syms, sym)
			w.Put(c.Word(sym))
		}
		r := bits.New()
		r.Feed(w.Out())
		for i, want := range syms {
			if sym, e := c.Next(r); sym != want || e != api.OK {
				t.Fatal(name, i, sym, want, e)
			}
		}
		if r.Have() != (8-w.Len()%8)%8 {
			t.Error(name, r.Have())
		}
	}
}

// A byte at a time: each symbol comes once its last bit is there, and not ahead of that.
func TestP5_2AsItComes(t *testing.T) {
	for name, lens := range codes() {
		c := made(t, lens)
		w := bits.NewWriter()
		var syms, ends []int
		for sym, n := range lens {
			if n > 0 {
				w.Put(c.Word(sym))
				syms, ends = append(syms, sym), append(ends, w.Len())
			}
		}
		r := bits.New()
		for at, b := range w.Out() {
			r.Feed([]byte{b})
			for len(syms) > 0 && ends[0] <= 8*(at+1) {
				if sym, e := c.Next(r); sym != syms[0] || e != api.OK {
					t.Fatal(name, sym, syms[0], e)
				}
				syms, ends = syms[1:], ends[1:]
			}
			if len(syms) > 0 {
				have := r.Have()
				if sym, e := c.Next(r); sym != 0 || e != api.ErrShort || r.Have() != have {
					t.Fatal(name, sym, e, r.Have(), have)
				}
			}
		}
		if len(syms) > 0 {
			t.Error(name, syms)
		}
	}
}

func TestP5_2NoWordBeginsAnother(t *testing.T) {
	for name, lens := range codes() {
		c := made(t, lens)
		for a := range lens {
			first := spoken(c.Word(a))
			for b := range lens {
				if second := spoken(c.Word(b)); a != b && first != "" && second != "" && strings.HasPrefix(second, first) {
					t.Fatal(name, a, b, first, second)
				}
			}
		}
	}
}
