package filter

import (
	"bytes"
	"math"
	"math/rand"
	"slices"
	"testing"

	"halftone/api"
)

// some is n random bytes, below most.
func some(rnd *rand.Rand, n, most int) []byte {
	b := make([]byte, n)
	for i := range b {
		b[i] = byte(rnd.Intn(most))
	}
	return b
}

// slowGuess is the guess of a kind, by the chapter's words: the row is what stands ahead of the byte.
func slowGuess(kind int, ahead, above []byte, step int) int {
	i := len(ahead)
	left, up, corner := 0, 0, 0
	if i >= step {
		left = int(ahead[i-step])
	}
	if i < len(above) {
		up = int(above[i])
	}
	if i >= step && i-step < len(above) {
		corner = int(above[i-step])
	}
	if kind < 4 {
		return []int{0, left, up, int(math.Floor(float64(left+up) / 2))}[kind]
	}
	three := []int{left, up, corner}
	return slices.MinFunc(three, func(a, b int) int {
		far := func(v int) int { return int(math.Abs(float64(left + up - corner - v))) }
		return far(a) - far(b)
	})
}

func slowDo(kind int, row, above []byte, step int) []byte {
	var out []byte
	for i, v := range row {
		out = append(out, byte((int(v)-slowGuess(kind, row[:i], above, step)+256)%256))
	}
	return out
}

func slowUndo(kind int, row, above []byte, step int) []byte {
	var out []byte
	for _, v := range row {
		out = append(out, byte((int(v)+slowGuess(kind, out, above, step))%256))
	}
	return out
}

// slowWeight is what Choose holds against one another.
func slowWeight(b []byte) int {
	n := 0
	for _, v := range b {
		n += min(int(v), 256-int(v))
	}
	return n
}

func slowChoose(row, above []byte, step int) int {
	best := 0
	for kind := range 5 {
		if slowWeight(slowDo(kind, row, above, step)) < slowWeight(slowDo(best, row, above, step)) {
			best = kind
		}
	}
	return best
}

// asSlow holds that all calls answer as the chapter's words say, and that Undo and Do undo one another.
func asSlow(t *testing.T, row, above []byte, step int) {
	t.Helper()
	for kind := range 5 {
		done, e := Do(kind, row, above, step)
		if !bytes.Equal(done, slowDo(kind, row, above, step)) || e != api.OK {
			t.Fatal("Do", kind, row, above, step, done, e)
		}
		undone, e := Undo(kind, row, above, step)
		if !bytes.Equal(undone, slowUndo(kind, row, above, step)) || e != api.OK {
			t.Fatal("Undo", kind, row, above, step, undone, e)
		}
		if back, e := Undo(kind, done, above, step); !bytes.Equal(back, row) || e != api.OK {
			t.Fatal("Undo of Do", kind, row, above, step, back, e)
		}
		if back, e := Do(kind, undone, above, step); !bytes.Equal(back, row) || e != api.OK {
			t.Fatal("Do of Undo", kind, row, above, step, back, e)
		}
	}
	if kind, e := Choose(row, above, step); kind != slowChoose(row, above, step) || e != api.OK {
		t.Fatal("Choose", row, above, step, kind, e)
	}
}

func TestP13_1Example(t *testing.T) {
	row, above := []byte{5, 7, 9}, []byte{1, 2, 3}
	for kind, want := range [][]byte{{5, 7, 9}, {5, 2, 2}, {4, 5, 6}, {5, 4, 4}, {4, 2, 2}} {
		if b, e := Do(kind, row, above, 1); !bytes.Equal(b, want) || e != api.OK {
			t.Error("Do", kind, b, e)
		}
		if b, e := Undo(kind, want, above, 1); !bytes.Equal(b, row) || e != api.OK {
			t.Error("Undo", kind, b, e)
		}
	}
	if kind, e := Choose(row, above, 1); kind != 4 || e != api.OK {
		t.Error("Choose", kind, e)
	}
}

// Every kind with every step, the wrong ones too: the step is told first.
func TestP13_1WrongArguments(t *testing.T) {
	kinds := []int{math.MinInt, -256, -1, 0, 1, 2, 3, 4, 5, 6, 256, 1 << 32, math.MaxInt}
	steps := []int{math.MinInt, -8, -1, 0, 1, 2, 3, 4, 5, 6, 7, 8, 9, 256, 257, 1<<32 + 1, math.MaxInt}
	for _, step := range steps {
		for _, row := range [][]byte{nil, {}, {5, 7, 9}} {
			right := step >= 1 && step <= 8
			for _, kind := range kinds {
				want := api.OK
				switch {
				case !right:
					want = api.ErrArg
				case kind < 0 || kind > 4:
					want = api.ErrFilter
				}
				done, e := Do(kind, row, row, step)
				undone, err := Undo(kind, row, row, step)
				if e != want || err != want || e != api.OK && len(done)+len(undone) != 0 {
					t.Error(kind, step, done, e, undone, err)
				}
			}
			kind, e := Choose(row, nil, step)
			if right && e != api.OK || !right && (e != api.ErrArg || kind != 0) {
				t.Error("Choose", step, kind, e)
			}
		}
	}
}

func TestP13_1NoBytes(t *testing.T) {
	for _, row := range [][]byte{nil, {}} {
		for _, above := range [][]byte{nil, {}, {1}, {1, 2, 3, 4, 5, 6, 7, 8, 9}} {
			for step := 1; step <= 8; step++ {
				asSlow(t, row, above, step)
				for kind := range 5 {
					if b, e := Do(kind, row, above, step); len(b) != 0 || e != api.OK {
						t.Error(b, e)
					}
				}
				if kind, e := Choose(row, above, step); kind != 0 || e != api.OK {
					t.Error(kind, e)
				}
			}
		}
	}
}

func TestP13_1NamedRows(t *testing.T) {
	for name, c := range map[string]struct {
		kind             int
		row, above, want []byte
		step             int
	}{
		"left is below":               {1, []byte{9, 3}, nil, []byte{9, 250}, 1},
		"left is step ahead":          {1, []byte{9, 3, 20, 1}, nil, []byte{9, 3, 11, 254}, 2},
		"a row shorter than the step": {1, []byte{9, 3}, []byte{1, 1}, []byte{9, 3}, 8},
		"just as long as the step":    {1, []byte{9, 3}, []byte{1, 1}, []byte{9, 3}, 2},
		"up without a row above":      {2, []byte{9, 3}, nil, []byte{9, 3}, 1},
		"up, shorter":                 {2, []byte{9, 3}, []byte{10}, []byte{255, 3}, 1},
		"up, longer":                  {2, []byte{9, 3}, []byte{10, 3, 7}, []byte{255, 0}, 1},
		"half, more than a byte":      {3, []byte{255, 255}, []byte{0, 255}, []byte{255, 0}, 1},
		"half is rounded down":        {3, []byte{10, 10}, []byte{5, 3}, []byte{8, 4}, 1},
		"half, the greatest odd one":  {3, []byte{255, 0}, []byte{0, 254}, []byte{255, 2}, 1},
		"half of up alone":            {3, []byte{10, 10}, []byte{5, 7}, []byte{8, 7}, 2},
		"half of left alone":          {3, []byte{9, 10}, nil, []byte{9, 6}, 1},
		"nearest, up alone":           {4, []byte{10, 10}, []byte{5, 7}, []byte{5, 3}, 2},
		"nearest, left alone":         {4, []byte{10, 15}, nil, []byte{10, 5}, 1},
		"nearest, the row above ends": {4, []byte{10, 15}, []byte{12}, []byte{254, 15}, 1},
	} {
		if b, e := Do(c.kind, c.row, c.above, c.step); !bytes.Equal(b, c.want) || e != api.OK {
			t.Error(name, b, e)
		}
		if b, e := Undo(c.kind, c.want, c.above, c.step); !bytes.Equal(b, c.row) || e != api.OK {
			t.Error(name, b, e)
		}
		asSlow(t, c.row, c.above, c.step)
	}
}

// What kind 4 guesses of three that stand about a byte.
func TestP13_1Nearest(t *testing.T) {
	for name, c := range map[string]struct{ left, up, corner, want byte }{
		"left and corner, left first":  {4, 13, 10, 4},
		"the other way about":          {16, 7, 10, 16},
		"up and corner, up first":      {13, 4, 10, 4},
		"up and corner, the other way": {7, 16, 10, 16},
		"left and up, both far":        {4, 16, 10, 10},
		"left and up, turned":          {16, 4, 10, 10},
		"left and up are the same":     {7, 7, 3, 7},
		"left and corner are the same": {3, 9, 3, 9},
		"up and corner are the same":   {9, 3, 3, 9},
		"all the same":                 {5, 5, 5, 5},
		"all nothing":                  {0, 0, 0, 0},
		"left alone is nearest":        {9, 2, 3, 9},
		"up alone is nearest":          {2, 9, 3, 9},
		"corner alone is nearest":      {10, 20, 14, 14},
		"more than a byte":             {255, 255, 0, 255},
		"more than a byte, left":       {250, 200, 10, 250},
		"more than a byte, up":         {200, 250, 10, 250},
		"below nothing":                {0, 0, 255, 0},
		"below nothing, left":          {10, 20, 200, 10},
		"below nothing, up":            {20, 10, 200, 10},
	} {
		for step := 1; step <= 8; step++ {
			row := make([]byte, step+1)
			above := make([]byte, step+1)
			row[0], row[step] = c.left, 100
			above[0], above[step] = c.corner, c.up
			b, e := Do(4, row, above, step)
			if e != api.OK || b[step] != 100-c.want {
				t.Error(name, step, b, e)
			}
			asSlow(t, row, above, step)
		}
	}
}

// Many threes about a byte, the edges among them.
func TestP13_1ManyThrees(t *testing.T) {
	values := []byte{0, 1, 2, 3, 4, 5, 7, 10, 63, 64, 65, 126, 127, 128, 129, 130, 191, 192, 200, 252, 253, 254, 255}
	for _, left := range values {
		for _, up := range values {
			for _, corner := range values {
				for _, v := range []byte{0, 130} {
					asSlow(t, []byte{left, v}, []byte{corner, up}, 1)
				}
			}
		}
	}
}

// Every length of a row, with rows above of every length, and every step.
func TestP13_1EveryLength(t *testing.T) {
	rnd := rand.New(rand.NewSource(131))
	for step := 1; step <= 8; step++ {
		for n := range 20 {
			for m := range 24 {
				for _, most := range []int{3, 256} {
					asSlow(t, some(rnd, n, most), some(rnd, m, most), step)
				}
			}
			asSlow(t, some(rnd, n, 256), nil, step)
		}
	}
}

func TestP13_2ThereAndBack(t *testing.T) {
	rnd := rand.New(rand.NewSource(132))
	for range 200 {
		row := some(rnd, rnd.Intn(600), 256)
		above := some(rnd, rnd.Intn(700), 256)
		step := 1 + rnd.Intn(8)
		for kind := range 5 {
			done, _ := Do(kind, row, above, step)
			if back, e := Undo(kind, done, above, step); !bytes.Equal(back, row) || e != api.OK {
				t.Fatal("Undo of Do", kind, step)
			}
			undone, _ := Undo(kind, row, above, step)
			if back, e := Do(kind, undone, above, step); !bytes.Equal(back, row) || e != api.OK {
				t.Fatal("Do of Undo", kind, step)
			}
		}
	}
}

func TestP13_1ChooseNamed(t *testing.T) {
	for name, c := range map[string]struct {
		row, above []byte
		step, want int
	}{
		"all come to the same":            {[]byte{7}, nil, 1, 0},
		"noughts":                         {[]byte{0, 0, 0}, []byte{0, 0, 0}, 1, 0},
		"left alone":                      {[]byte{50, 50, 50}, []byte{0, 100, 0}, 1, 1},
		"left and nearest":                {[]byte{9, 9, 9}, nil, 1, 1},
		"up alone":                        {[]byte{9, 90, 9}, []byte{9, 90, 9}, 8, 2},
		"half alone":                      {[]byte{10, 20, 30}, []byte{20, 30, 40}, 1, 3},
		"nearest alone":                   {[]byte{5, 7, 9}, []byte{1, 2, 3}, 1, 4},
		"up and nearest":                  {[]byte{9}, []byte{8}, 1, 2},
		"nothing and half":                {[]byte{1}, []byte{4}, 1, 0},
		"-128 counts 128":                 {[]byte{128}, []byte{1}, 1, 2},
		"128 as far as the other way":     {[]byte{128}, []byte{255}, 1, 3},
		"255 counts 1":                    {[]byte{255, 254}, []byte{250, 250}, 1, 1},
		"129 counts 127":                  {[]byte{129}, []byte{1}, 1, 0},
		"a row that is as it was":         {[]byte{1, 2, 3, 4}, []byte{1, 2, 3, 4}, 1, 2},
		"one above the other, step 3":     {[]byte{10, 20, 30, 11, 21, 31}, nil, 3, 1},
		"the same bytes, step 2: no help": {[]byte{1, 0, 0, 1}, nil, 2, 0},
	} {
		kind, e := Choose(c.row, c.above, c.step)
		if want := slowChoose(c.row, c.above, c.step); kind != c.want || want != c.want || e != api.OK {
			t.Error(name, kind, want, e)
		}
	}
}

// No kind comes to less than the one that is chosen, none ahead of it to as little; each is chosen at times, and several come to the same at times.
func TestP13_3NoKindIsBetter(t *testing.T) {
	rnd := rand.New(rand.NewSource(133))
	var chosen [5]int
	same := 0
	for range 20000 {
		most := 2 + rnd.Intn(255)
		n := rnd.Intn(12)
		row := some(rnd, n, most)
		above := some(rnd, rnd.Intn(n+3), most)
		step := 1 + rnd.Intn(8)
		kind, e := Choose(row, above, step)
		if e != api.OK || kind < 0 || kind > 4 {
			t.Fatal(kind, e)
		}
		chosen[kind]++
		least := slowWeight(slowDo(kind, row, above, step))
		for other := range 5 {
			w := slowWeight(slowDo(other, row, above, step))
			if w < least || w == least && other < kind {
				t.Fatal(row, above, step, kind, other)
			}
			if w == least && other > kind {
				same++
			}
		}
	}
	for kind, n := range chosen {
		if n < 100 {
			t.Error(kind, n)
		}
	}
	if same < 100 {
		t.Error(same)
	}
}

// A long row's bytes together are more than a small number holds.
func TestP13_3LongRow(t *testing.T) {
	rnd := rand.New(rand.NewSource(134))
	for _, step := range []int{1, 8} {
		row, above := some(rnd, 20000, 256), some(rnd, 20000, 256)
		asSlow(t, row, above, step)
		for i := range row {
			row[i] = above[i] + byte(rnd.Intn(3))
		}
		asSlow(t, row, above, step)
	}
}

// What is handed in stays as it was, its spare room too; what is answered is new.
func TestP13_1Handed(t *testing.T) {
	rnd := rand.New(rand.NewSource(135))
	for kind := range 5 {
		for _, call := range []func(int, []byte, []byte, int) ([]byte, api.Errno){Do, Undo} {
			row, above := some(rnd, 30, 256), some(rnd, 30, 256)
			wasRow, wasAbove := slices.Clone(row), slices.Clone(above)
			out, e := call(kind, row[:20], above[:10], 3)
			Choose(row[:20], above[:10], 3)
			if e != api.OK || !bytes.Equal(row, wasRow) || !bytes.Equal(above, wasAbove) {
				t.Fatal("changed", kind, e)
			}
			kept := slices.Clone(out)
			clear(row)
			clear(above)
			if !bytes.Equal(out, kept) {
				t.Fatal("shared", kind)
			}
			again, _ := call(kind, wasRow[:20], wasAbove[:10], 3)
			if !bytes.Equal(again, kept) {
				t.Fatal("another answer", kind)
			}
		}
	}
	// One list as both: nothing of it is taken for what comes of it.
	both := some(rnd, 20, 256)
	asSlow(t, both, both, 2)
}
