package adam

import (
	"iter"
	"math"
	"testing"

	"halftone/api"
)

// sides are those at the edges, and some between.
func sides() []int {
	return []int{
		math.MinInt, -1 << 32, -2048, -8, -1, 0, 1, 2, 3, 4, 5, 6, 7, 8, 9, 15, 16, 17, 31, 32, 33, 255, 256, 257,
		2047, 2048, 2049, 65536, 65537, 1 << 31, 1<<32 - 1, 1 << 32, 1<<32 + 1, 1 << 62, math.MaxInt,
	}
}

func TestP14_1Example(t *testing.T) {
	want := []line{
		{1, []api.Spot{{X: 0, Y: 0}}},
		{4, []api.Spot{{X: 2, Y: 0}}},
		{6, []api.Spot{{X: 1, Y: 0}}},
		{7, []api.Spot{{X: 0, Y: 1}, {X: 1, Y: 1}, {X: 2, Y: 1}}},
	}
	if l := told(Lines(3, 2, true)); !same(l, want) {
		t.Error(l)
	}
	if n := Bytes(api.Head{W: 3, H: 2, Depth: 1, Laced: true}, 1); n != 8 {
		t.Error(n)
	}
	if n := Count(3, 2, true); n != 4 {
		t.Error(n)
	}
}

func TestP14_1WovenNamed(t *testing.T) {
	row := func(y int) []api.Spot { return []api.Spot{{X: 0, Y: y}, {X: 1, Y: y}} }
	want := []line{
		{1, row(0)}, {1, row(8)},
		{2, row(4)}, {2, row(12)},
		{3, row(2)}, {3, row(6)}, {3, row(10)},
		{4, row(1)}, {4, row(3)}, {4, row(5)}, {4, row(7)}, {4, row(9)}, {4, row(11)},
	}
	if l := told(Woven(2, 13, true)); !same(l, want) {
		t.Error(l)
	}
	if l := told(Woven(2, 2, false)); !same(l, []line{{1, row(0)}, {1, row(1)}}) {
		t.Error(l)
	}
	if l := told(Lines(2, 2, false)); !same(l, []line{{1, row(0)}, {1, row(1)}}) {
		t.Error(l)
	}
}

func TestP14_1LinesOfEight(t *testing.T) {
	want := []line{
		{1, []api.Spot{{X: 0, Y: 0}}},
		{2, []api.Spot{{X: 4, Y: 0}}},
		{3, []api.Spot{{X: 0, Y: 4}, {X: 4, Y: 4}}},
		{4, []api.Spot{{X: 2, Y: 0}, {X: 6, Y: 0}}},
		{4, []api.Spot{{X: 2, Y: 4}, {X: 6, Y: 4}}},
		{5, []api.Spot{{X: 0, Y: 2}, {X: 2, Y: 2}, {X: 4, Y: 2}, {X: 6, Y: 2}}},
		{5, []api.Spot{{X: 0, Y: 6}, {X: 2, Y: 6}, {X: 4, Y: 6}, {X: 6, Y: 6}}},
	}
	for y := 0; y < 8; y += 2 {
		want = append(want, line{6, []api.Spot{{X: 1, Y: y}, {X: 3, Y: y}, {X: 5, Y: y}, {X: 7, Y: y}}})
	}
	for y := 1; y < 8; y += 2 {
		l := line{pass: 7}
		for x := range 8 {
			l.spots = append(l.spots, api.Spot{X: x, Y: y})
		}
		want = append(want, l)
	}
	if l := told(Lines(8, 8, true)); !same(l, want) {
		t.Error(l)
	}
}

// slowAt counts a pass's places one by one.
func slowAt(pass, w, h int) api.Pass {
	if pass < 1 || pass > 7 || w < 1 || w > 2048 || h < 1 || h > 2048 {
		return api.Pass{}
	}
	begin := [7][4]int{{0, 0, 8, 8}, {4, 0, 8, 8}, {0, 4, 4, 8}, {2, 0, 4, 4}, {0, 2, 2, 4}, {1, 0, 2, 2}, {0, 1, 1, 2}}[pass-1]
	p := api.Pass{X: begin[0], Y: begin[1], DX: begin[2], DY: begin[3]}
	for x := p.X; x < w; x += p.DX {
		p.W++
	}
	for y := p.Y; y < h; y += p.DY {
		p.H++
	}
	if p.W == 0 || p.H == 0 {
		p.W, p.H = 0, 0
	}
	return p
}

func TestP14_1At(t *testing.T) {
	for _, pass := range []int{math.MinInt, -7, -1, 0, 1, 2, 3, 4, 5, 6, 7, 8, 9, 255, 256, 257, 1<<32 + 1, math.MaxInt} {
		for _, w := range sides() {
			for _, h := range sides() {
				if p := At(pass, w, h); p != slowAt(pass, w, h) {
					t.Fatal(pass, w, h, p)
				}
			}
		}
	}
	for pass := 1; pass <= 7; pass++ {
		for n := 1; n <= 2048; n++ {
			for _, p := range [][2]int{{n, 3}, {3, n}, {n, 2048}} {
				if got := At(pass, p[0], p[1]); got != slowAt(pass, p[0], p[1]) {
					t.Fatal(pass, p, got)
				}
			}
		}
	}
}

func TestP14_1AtNamed(t *testing.T) {
	for name, c := range map[string]struct {
		pass, w, h int
		want       api.Pass
	}{
		"one pixel":                   {1, 1, 1, api.Pass{DX: 8, DY: 8, W: 1, H: 1}},
		"no column of the second":     {2, 4, 1, api.Pass{X: 4, DX: 8, DY: 8}},
		"no column, though many rows": {2, 4, 2048, api.Pass{X: 4, DX: 8, DY: 8}},
		"one column of the second":    {2, 5, 1, api.Pass{X: 4, DX: 8, DY: 8, W: 1, H: 1}},
		"no row of the third":         {3, 2048, 4, api.Pass{Y: 4, DX: 4, DY: 8}},
		"one row of the third":        {3, 2048, 5, api.Pass{Y: 4, DX: 4, DY: 8, W: 512, H: 1}},
		"no row of the last":          {7, 9, 1, api.Pass{Y: 1, DX: 1, DY: 2}},
		"the last":                    {7, 9, 4, api.Pass{Y: 1, DX: 1, DY: 2, W: 9, H: 2}},
		"more pixels than a picture":  {6, 2048, 2048, api.Pass{X: 1, DX: 2, DY: 2, W: 1024, H: 1024}},
		"the longest sides":           {1, 2048, 2048, api.Pass{DX: 8, DY: 8, W: 256, H: 256}},
		"too wide":                    {1, 2049, 1, api.Pass{}},
		"too high":                    {1, 1, 2049, api.Pass{}},
		"no width":                    {1, 0, 1, api.Pass{}},
		"no height":                   {1, 1, 0, api.Pass{}},
		"below 0":                     {1, -1, -1, api.Pass{}},
		"pass 0":                      {0, 8, 8, api.Pass{}},
		"pass 8":                      {8, 8, 8, api.Pass{}},
		"pass below 0":                {-1, 8, 8, api.Pass{}},
	} {
		if p := At(c.pass, c.w, c.h); p != c.want {
			t.Error(name, p)
		}
	}
}

// asSlow holds that all calls answer of a picture as the chapter's words say.
func asSlow(t *testing.T, w, h int) {
	t.Helper()
	for _, laced := range []bool{false, true} {
		for _, o := range orders() {
			if got := told(o.call(w, h, laced)); !same(got, o.slowLines(w, h, laced)) {
				t.Fatal(o.name, w, h, laced, got)
			}
		}
		if n := Count(w, h, laced); n != len(told(Lines(w, h, laced))) {
			t.Fatal("Count", w, h, laced, n)
		}
	}
}

func TestP14_1SmallPictures(t *testing.T) {
	for w := range 20 {
		for h := range 20 {
			asSlow(t, w, h)
		}
	}
}

// Every side with every other one: those whose product is just as much as may be, more, or more than an int holds.
func TestP14_1ManySides(t *testing.T) {
	for _, w := range sides() {
		for _, h := range sides() {
			asSlow(t, w, h)
		}
	}
	// Every width with the height with which it just may be, and with one more.
	for w := 1; w <= api.MaxSide; w++ {
		most := min(api.MaxSide, api.MaxPixels/w)
		for _, laced := range []bool{false, true} {
			if Count(w, most, laced) == 0 || Count(most, w, laced) == 0 || Count(w, most+1, laced) != 0 || Count(most+1, w, laced) != 0 {
				t.Fatal(w, most, laced)
			}
			for _, o := range orders() {
				if isTold(o.call(w, most+1, laced)) || isTold(o.call(most+1, w, laced)) || !isTold(o.call(w, most, laced)) || !isTold(o.call(most, w, laced)) {
					t.Fatal(o.name, w, most, laced)
				}
			}
		}
	}
}

func isTold(seq iter.Seq2[int, []api.Spot]) bool {
	for range seq {
		return true
	}
	return false
}

func TestP14_1CountNamed(t *testing.T) {
	for _, c := range []struct {
		w, h  int
		laced bool
		want  int
	}{
		{1, 1, false, 1}, {1, 1, true, 1}, {8, 8, false, 8}, {8, 8, true, 15}, {256, 256, false, 256}, {256, 256, true, 480},
		{2048, 32, false, 32}, {2048, 32, true, 60}, {32, 2048, true, 3840}, {1, 2048, true, 2048}, {2048, 1, true, 4}, {4, 4, true, 7},
		{257, 256, false, 0}, {257, 256, true, 0}, {2049, 1, false, 0}, {1, 2049, true, 0}, {0, 5, false, 0}, {5, 0, true, 0}, {-1, -1, false, 0},
		{1 << 32, 1 << 32, false, 0}, {math.MaxInt, 2, true, 0}, {math.MinInt, math.MinInt, false, 0},
	} {
		if n := Count(c.w, c.h, c.laced); n != c.want {
			t.Error(c, n)
		}
	}
}

func TestP14_1BytesNamed(t *testing.T) {
	for name, c := range map[string]struct {
		h       api.Head
		samples int
		want    int
	}{
		"one bit":                 {api.Head{W: 1, H: 1, Depth: 1}, 1, 2},
		"just a byte":             {api.Head{W: 8, H: 1, Depth: 1}, 1, 2},
		"a bit more":              {api.Head{W: 9, H: 1, Depth: 1}, 1, 3},
		"a depth that PNG hasn't": {api.Head{W: 3, H: 1, Depth: 3}, 1, 3},
		"three samples":           {api.Head{W: 3, H: 2, Depth: 8}, 3, 20},
		"the most":                {api.Head{W: 3, H: 2, Depth: 16}, 4, 50},
		"a picture's most":        {api.Head{W: 32, H: 2048, Depth: 16}, 4, 2048 * 257},
		"the same, laced":         {api.Head{W: 32, H: 2048, Depth: 16, Laced: true}, 4, 65536*8 + 3840},
		"each row filled up":      {api.Head{W: 1, H: 5, Depth: 2}, 3, 10},
		"whatever kind":           {api.Head{W: 1, H: 1, Depth: 5, Color: -9}, 2, 3},
		"no samples":              {api.Head{W: 1, H: 1, Depth: 8}, 0, 0},
		"samples below 0":         {api.Head{W: 1, H: 1, Depth: 8}, -1, 0},
		"too many samples":        {api.Head{W: 1, H: 1, Depth: 8}, 5, 0},
		"no depth":                {api.Head{W: 1, H: 1, Depth: 0}, 1, 0},
		"a depth below 0":         {api.Head{W: 1, H: 1, Depth: -8}, 1, 0},
		"too deep":                {api.Head{W: 1, H: 1, Depth: 17}, 1, 0},
		"no width":                {api.Head{W: 0, H: 1, Depth: 8}, 1, 0},
		"no height":               {api.Head{W: 1, H: 0, Depth: 8}, 1, 0},
		"too wide":                {api.Head{W: 2049, H: 1, Depth: 8}, 1, 0},
		"too many pixels":         {api.Head{W: 257, H: 256, Depth: 8}, 1, 0},
		"nothing":                 {},
	} {
		if n := Bytes(c.h, c.samples); n != c.want {
			t.Error(name, n)
		}
	}
}

func TestP14_1Bytes(t *testing.T) {
	numbers := []int{math.MinInt, -16, -1, 17, 18, 32, 256, 264, 1<<32 + 8, math.MaxInt}
	for n := range 17 {
		numbers = append(numbers, n)
	}
	for _, laced := range []bool{false, true} {
		for _, depth := range numbers {
			for _, samples := range numbers {
				for _, side := range [][2]int{{1, 1}, {2, 3}, {5, 9}, {9, 5}, {13, 1}, {1, 13}, {17, 8}, {0, 1}, {1, -1}, {2048, 33}, {1 << 32, 1 << 32}} {
					h := api.Head{W: side[0], H: side[1], Depth: depth, Laced: laced}
					if n := Bytes(h, samples); n != slowBytes(h, samples) {
						t.Fatal(h, samples, n)
					}
				}
			}
		}
		for w := range 20 {
			for h := range 20 {
				for _, depth := range []int{1, 2, 4, 8, 16} {
					one := api.Head{W: w, H: h, Depth: depth, Laced: laced}
					for samples := range 6 {
						if n := Bytes(one, samples); n != slowBytes(one, samples) {
							t.Fatal(one, samples, n)
						}
					}
				}
			}
		}
	}
}
