package lzw

import (
	"bytes"
	"math"
	"math/rand"
	"slices"
	"testing"

	"halftone/api"
)

func refused(t *testing.T, b []byte, least, late int) {
	t.Helper()
	if out, e := Pack(b, least, late); len(out) != 0 || e != api.ErrArg {
		t.Error(least, late, out, e)
	}
}

func TestP9_1PackWrongArguments(t *testing.T) {
	for _, b := range [][]byte{nil, {0}, {1, 1, 1, 1}, make([]byte, 5000)} {
		for _, least := range wrongLeasts {
			for _, late := range []int{-1, 0, 5} {
				refused(t, b, least, late)
			}
		}
		for least := 2; least <= 8; least++ {
			for _, late := range []int{-1, -2, -4096, math.MinInt} {
				refused(t, b, least, late)
			}
		}
	}
}

// Every byte, alone, at the beginning, in the middle and at the end of roots.
func TestP9_1PackNoRoot(t *testing.T) {
	for least := 2; least <= 8; least++ {
		for v := range 256 {
			for _, b := range [][]byte{{byte(v)}, {byte(v), 0, 1}, {1, byte(v), 0}, {1, 1, 1, byte(v)}} {
				if v >= 1<<least {
					refused(t, b, least, 0)
					continue
				}
				if out, e := Pack(b, least, 0); e != api.OK || !bytes.Equal(out, slowPack(b, least, 0)) {
					t.Error(least, b, out, e)
				}
			}
		}
	}
}

func TestP9_1PackNothing(t *testing.T) {
	for least := 2; least <= 8; least++ {
		for _, late := range []int{0, 1, math.MaxInt} {
			b, e := Pack(nil, least, late)
			codes, widths := codesOf(b, least)
			if e != api.OK || !slices.Equal(codes, []int{1 << least, 1<<least + 1}) || !slices.Equal(widths, []int{least + 1, least + 1}) {
				t.Error(least, b, e)
			}
			if len(b) != (2*(least+1)+7)/8 {
				t.Error(least, b)
			}
		}
	}
	if b, _ := Pack(nil, 2, 0); !bytes.Equal(b, []byte{4 | 5<<3}) {
		t.Error(b)
	}
}

// The bytes are those that the chapter's words make, for all leasts, lates and texts.
func TestP9_1PackWords(t *testing.T) {
	rnd := rand.New(rand.NewSource(102))
	for least := 2; least <= 8; least++ {
		for _, text := range texts(rnd, least) {
			for _, late := range []int{0, 1, 2, 3, 1000, math.MaxInt} {
				b, e := Pack(text, least, late)
				if e != api.OK || !bytes.Equal(b, slowPack(text, least, late)) {
					t.Fatal(least, len(text), late, e)
				}
			}
		}
	}
	for range 20000 {
		least := 2 + rnd.Intn(7)
		text := some(rnd, rnd.Intn(60), 1+rnd.Intn(4))
		late := rnd.Intn(3)
		b, e := Pack(text, least, late)
		if e != api.OK || !bytes.Equal(b, slowPack(text, least, late)) {
			t.Fatal(least, text, late, e)
		}
	}
}

// filling is how many codes are written from a clear on, till the table is full.
func filling(least int) int { return 4096 - (1<<least + 2) }

// Between two clears there are as many codes as fill the table, and late more; behind the last one no more than that; and all of them are wide enough.
func TestP9_1PackLate(t *testing.T) {
	rnd := rand.New(rand.NewSource(103))
	for least := 2; least <= 8; least++ {
		text := some(rnd, 60000, 1<<least)
		for _, late := range []int{0, 1, 2, 7, 4000} {
			b, _ := Pack(text, least, late)
			codes, _ := codesOf(b, least)
			if codes[0] != 1<<least || codes[len(codes)-1] != 1<<least+1 {
				t.Fatal(least, late, "no clear ahead or no end behind")
			}
			row, clears := 0, 0
			for _, code := range codes[1 : len(codes)-1] {
				if code != 1<<least {
					row++
					continue
				}
				if row != filling(least)+late {
					t.Fatal(least, late, row)
				}
				row, clears = 0, clears+1
			}
			if clears == 0 || row == 0 || row > filling(least)+late {
				t.Fatal(least, late, clears, row)
			}
		}
	}
}

// A text that ends with just the code that stands ahead of a clear has none; one byte more, and it has it.
func TestP9_1PackClearOnlyIfSomethingIsLeft(t *testing.T) {
	rnd := rand.New(rand.NewSource(104))
	for least := 2; least <= 8; least++ {
		text := some(rnd, 60000, 1<<least)
		for _, late := range []int{0, 1, 5} {
			codes := slowCodes(text, least, late)
			// How many bytes the codes up to the first clear tell.
			s := newSlowTable(least)
			size := 0
			for _, code := range codes[1 : 1+filling(least)+late] {
				told, ok := s.read(code)
				if !ok {
					t.Fatal("no code")
				}
				size += len(told)
			}
			for more := -1; more <= 1; more++ {
				b, _ := Pack(text[:size+more], least, late)
				codes, _ := codesOf(b, least)
				clears := 0
				for _, code := range codes {
					if code == 1<<least {
						clears++
					}
				}
				if want := 1 + max(more, 0); clears != want {
					t.Error(least, late, more, clears)
				}
				holds(t, all(least, size+more, b), result{told: text[:size+more], done: true}, least, late, more)
			}
		}
	}
}

// With a late that is never reached there is one clear, and the full table is used up to the end.
func TestP9_1PackNeverClear(t *testing.T) {
	text := bytes.Repeat([]byte{0, 1, 2, 3, 3, 1}, 20000)
	b, _ := Pack(text, 2, math.MaxInt)
	codes, widths := codesOf(b, 2)
	if slices.Contains(codes[1:], 4) || slices.Max(widths) > 12 {
		t.Error("a clear, or too wide")
	}
	rnd := rand.New(rand.NewSource(105))
	b, _ = Pack(some(rnd, 60000, 4), 2, math.MaxInt)
	codes, widths = codesOf(b, 2)
	if slices.Contains(codes[1:], 4) || slices.Max(widths) != 12 || len(codes) <= 2*filling(2) || slices.Max(codes) < 4000 {
		t.Error("a clear, or too wide, or a table that isn't used")
	}
}

func TestP9_3ThereAndBack(t *testing.T) {
	rnd := rand.New(rand.NewSource(106))
	for least := 2; least <= 8; least++ {
		for _, text := range texts(rnd, least) {
			for _, late := range []int{0, 1, 2, 100, 4096, math.MaxInt} {
				b, e := Pack(text, least, late)
				if e != api.OK {
					t.Fatal(least, len(text), late, e)
				}
				want := result{told: text, done: true}
				holds(t, all(least, len(text), b), want, least, late)
				holds(t, all(least, math.MaxInt, single(b)...), want, least, late)
			}
		}
	}
}

// Every text of up to six bytes of three letters, and every length of a row of one letter up to beyond some widths.
func TestP9_3SmallTexts(t *testing.T) {
	for n := range 7 {
		count := 1
		for range n {
			count *= 3
		}
		for v := range count {
			text := make([]byte, n)
			for i, left := 0, v; i < n; i, left = i+1, left/3 {
				text[i] = byte(left % 3)
			}
			for least := 2; least <= 8; least += 3 {
				b, _ := Pack(text, least, 0)
				holds(t, all(least, n, b), result{told: text, done: true}, least, text)
			}
		}
	}
	for n := range 1500 {
		text := make([]byte, n)
		b, _ := Pack(text, 2, 0)
		holds(t, all(2, n, b), result{told: text, done: true}, n)
	}
}
