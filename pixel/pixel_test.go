package pixel

import (
	"fmt"
	"math"
	"math/rand"
	"slices"
	"testing"

	"halftone/api"
)

// tints is n colours, of which no two are the same, nor their numbers.
func tints(n int) []api.Tint {
	var l []api.Tint
	for i := range n {
		l = append(l, api.Tint{R: byte(i), G: byte(255 - i), B: byte(i*7 + 1)})
	}
	return l
}

// ones is n ones.
func ones(n int) []int { return slices.Repeat([]int{1}, n) }

// plain is a raster that may be, of w by h, with the whole table and nothing that covers nothing.
func plain(w, h, color, depth int) api.Raster {
	r := api.Raster{Head: api.Head{W: w, H: h, Color: color, Depth: depth}}
	if color == 3 {
		r.Tints = tints(power(depth))
	}
	r.Samples = ones(w * h * perPixel(color))
	return r
}

// each calls f with a plain raster of each kind of colours with each of its depths, laced or not.
func each(w, h int, f func(r api.Raster)) {
	for color := range 7 {
		for _, depth := range depths(color) {
			for _, laced := range []bool{false, true} {
				r := plain(w, h, color, depth)
				r.Head.Laced = laced
				f(r)
			}
		}
	}
}

// show is a raster for an error's text.
func show(r api.Raster) string {
	return fmt.Sprint(r.Head, len(r.Tints), r.Alpha, r.Clear, len(r.Samples), r.Samples[:min(8, len(r.Samples))])
}

// asSlow holds that all calls answer as the chapter's words say, of the first pixel's samples too.
func asSlow(t *testing.T, r api.Raster) {
	t.Helper()
	if e := Check(r); e != slowCheck(r) {
		t.Fatal("Check", show(r), e, "not", slowCheck(r))
	}
	m, e := Image(r)
	if want, err := slowImage(r); !sameImage(m, want) || e != err {
		t.Fatal("Image", show(r), m, e, "not", want, err)
	}
	ofAsSlow(t, r, r.Samples[:min(len(r.Samples), perPixel(r.Head.Color))])
}

func ofAsSlow(t *testing.T, r api.Raster, samples []int) {
	t.Helper()
	c, e := Of(r, samples)
	if want, err := slowOf(r, samples); c != want || e != err {
		t.Fatal("Of", show(r), samples, c, e, "not", want, err)
	}
}

// refused holds that a raster is refused, by Image and by Of too.
func refused(t *testing.T, name string, r api.Raster, want api.Errno) {
	t.Helper()
	if e := Check(r); e != want {
		t.Error(name, show(r), "Check", e)
	}
	if m, e := Image(r); e != want || m.W != 0 || m.H != 0 || len(m.Pix) != 0 {
		t.Error(name, show(r), "Image", m, e)
	}
	asSlow(t, r)
}

func TestP15_1Example(t *testing.T) {
	r := api.Raster{Head: api.Head{W: 1, H: 1, Depth: 2}, Samples: []int{1}}
	want := api.Color{R: 21845, G: 21845, B: 21845, A: 65535}
	if c, e := Of(r, []int{1}); c != want || e != api.OK {
		t.Error(c, e)
	}
	if m, e := Image(r); !sameImage(m, api.Image{W: 1, H: 1, Pix: []api.Color{want}}) || e != api.OK {
		t.Error(m, e)
	}
}

func TestP15_1Plain(t *testing.T) {
	for _, side := range [][2]int{{1, 1}, {3, 2}, {2, 3}, {2048, 1}, {1, 2048}} {
		each(side[0], side[1], func(r api.Raster) {
			if e := Check(r); e != api.OK {
				t.Error(show(r), e)
			}
			asSlow(t, r)
		})
	}
	for _, side := range [][2]int{{2048, 32}, {32, 2048}, {256, 256}} {
		r := plain(side[0], side[1], 6, 16)
		if m, e := Image(r); m.W != side[0] || m.H != side[1] || len(m.Pix) != 65536 || e != api.OK {
			t.Error(show(r), e)
		}
	}
}

// Each kind of colours with each depth: those that don't go together are told ahead of all else.
func TestP15_1CheckHead(t *testing.T) {
	for _, color := range []int{math.MinInt, -1, 0, 1, 2, 3, 4, 5, 6, 7, 256, 259, 1<<32 + 2, math.MaxInt} {
		for _, depth := range numbers() {
			r := api.Raster{Head: api.Head{W: 2, H: 1, Color: color, Depth: depth}, Samples: ones(2 * perPixel(color))}
			if color == 3 {
				r.Tints = tints(2)
			}
			want := api.ErrHead
			if slices.Contains(depths(color), depth) {
				want = api.OK
			}
			if e := Check(r); e != want {
				t.Error(show(r), e)
			}
			asSlow(t, r)
		}
	}
	for _, side := range [][2]int{{0, 1}, {1, 0}, {-1, 1}, {1, -1}, {-1, -1}, {2049, 1}, {1, 2049}, {257, 256}, {1 << 32, 1 << 32}, {math.MinInt, 2}, {math.MaxInt, math.MaxInt}} {
		for color := range 7 {
			for _, depth := range depths(color) {
				r := plain(1, 1, color, depth)
				r.Head.W, r.Head.H = side[0], side[1]
				refused(t, "side", r, api.ErrHead)
				r.Samples = nil
				refused(t, "side", r, api.ErrHead)
			}
		}
	}
	refused(t, "nothing", api.Raster{}, api.ErrHead)
}

// Every number of Tints, Alpha and Clear, with each kind and depth.
func TestP15_1CheckCounts(t *testing.T) {
	each(2, 1, func(r api.Raster) {
		end := power(r.Head.Depth)
		for _, n := range []int{0, 1, 2, 3, 4, end - 1, end, end + 1, 256, 257} {
			if n > 300 {
				continue
			}
			for _, m := range []int{0, 1, 2, n - 1, n, n + 1, 300} {
				for k := range 6 {
					r.Tints, r.Alpha, r.Clear = tints(n), ones(max(m, 0)), ones(k)
					asSlow(t, r)
				}
			}
		}
	})
}

func TestP15_1CheckTints(t *testing.T) {
	for _, depth := range depths(3) {
		end := power(depth)
		r := plain(2, 2, 3, depth)
		r.Samples = make([]int, 4)
		for _, n := range []int{1, 2, end - 1, end} {
			r.Tints = tints(n)
			if e := Check(r); e != api.OK {
				t.Error(depth, n, e)
			}
		}
		r.Tints = nil
		refused(t, "no Tints", r, api.ErrPalette)
		r.Tints = []api.Tint{}
		refused(t, "no Tints", r, api.ErrPalette)
		r.Tints = tints(end + 1)
		refused(t, "a Tint too many", r, api.ErrPalette)
		r.Tints = tints(2)
		r.Alpha = ones(2)
		if e := Check(r); e != api.OK {
			t.Error(depth, e)
		}
		r.Alpha = ones(3)
		refused(t, "more Alpha than Tints", r, api.ErrPalette)
		for _, v := range []int{math.MinInt, -256, -1, 0, 1, 254, 255, 256, 257, 65535, 1 << 32, math.MaxInt} {
			for at := range 2 {
				r.Alpha = make([]int, 2)
				r.Alpha[at] = v
				asSlow(t, r)
				if e := Check(r); (e == api.OK) != (v >= 0 && v <= 255) || e != api.OK && e != api.ErrPalette {
					t.Error(depth, v, e)
				}
			}
		}
		for n := 1; n <= 4; n++ {
			r.Alpha, r.Clear = nil, make([]int, n)
			refused(t, "Clear of kind 3", r, api.ErrPalette)
		}
	}
}

// Where there may be no Tints, no Alpha, no Clear.
func TestP15_1CheckNone(t *testing.T) {
	each(1, 2, func(r api.Raster) {
		if r.Head.Color == 3 {
			return
		}
		r.Tints = tints(1)
		refused(t, "a Tint", r, api.ErrPalette)
		r.Tints, r.Alpha = nil, []int{0}
		refused(t, "an Alpha", r, api.ErrPalette)
		r.Tints = tints(1)
		refused(t, "both", r, api.ErrPalette)
		r.Tints, r.Alpha = []api.Tint{}, []int{}
		r.Clear = []int{}
		if e := Check(r); e != api.OK {
			t.Error("lists without anything", show(r), e)
		}
	})
}

func TestP15_1CheckClear(t *testing.T) {
	each(1, 2, func(r api.Raster) {
		may := map[int]int{0: 1, 2: 3}[r.Head.Color]
		for n := range 7 {
			r.Clear = ones(n)
			if n != 0 && n != may {
				refused(t, "so many Clear", r, api.ErrPalette)
			} else if e := Check(r); e != api.OK {
				t.Error(show(r), e)
			}
		}
		end := power(r.Head.Depth)
		for at := range may {
			for _, v := range []int{math.MinInt, -1, end, end + 1, 1 << 32, math.MaxInt} {
				r.Clear = ones(may)
				r.Clear[at] = v
				refused(t, "a Clear that no sample is", r, api.ErrPalette)
			}
			for _, v := range []int{0, end - 1} {
				r.Clear = ones(may)
				r.Clear[at] = v
				if e := Check(r); e != api.OK {
					t.Error(show(r), e)
				}
				asSlow(t, r)
			}
		}
	})
}

func TestP15_1CheckSamples(t *testing.T) {
	each(3, 2, func(r api.Raster) {
		good := r.Samples
		end := power(r.Head.Depth)
		for _, n := range []int{0, 1, 5, len(good) - 1, len(good) + 1, 2 * len(good)} {
			if n != len(good) {
				r.Samples = ones(n)
				refused(t, "too many or too few", r, api.ErrArg)
			}
		}
		for at := range good {
			for _, v := range []int{math.MinInt, -end, -1, end, end + 1, 65536, 1 << 32, math.MaxInt} {
				r.Samples = slices.Clone(good)
				r.Samples[at] = v
				refused(t, "no sample", r, api.ErrArg)
			}
			for _, v := range []int{0, end - 1} {
				r.Samples = slices.Clone(good)
				r.Samples[at] = v
				if e := Check(r); e != api.OK {
					t.Error(show(r), e)
				}
				asSlow(t, r)
			}
		}
	})
}

// Of kind 3 a sample that its bits hold, but that is no Tint's.
func TestP15_1CheckIndex(t *testing.T) {
	for _, depth := range depths(3) {
		for _, n := range []int{1, 2, 3, 15, 16, 200, 255, 256} {
			if n > power(depth) {
				continue
			}
			for at := range 4 {
				r := plain(2, 2, 3, depth)
				r.Tints = tints(n)
				r.Samples = make([]int, 4)
				r.Samples[at] = n - 1
				if e := Check(r); e != api.OK {
					t.Error(show(r), e)
				}
				r.Samples[at] = n
				if n == power(depth) {
					refused(t, "more than the bits hold", r, api.ErrArg)
				} else {
					refused(t, "no Tint's", r, api.ErrIndex)
					r.Samples[at] = power(depth) - 1
					refused(t, "no Tint's", r, api.ErrIndex)
				}
			}
		}
	}
}

// Of several errors the first that the chapter names.
func TestP15_1WhichErrorFirst(t *testing.T) {
	r := plain(2, 2, 3, 2)
	r.Tints = tints(3)
	r.Samples = []int{3, 0, 0, 0}
	refused(t, "index", r, api.ErrIndex)
	r.Samples = []int{3, 0, 0, 4}
	refused(t, "arg behind an index", r, api.ErrArg)
	r.Samples = []int{3, 0, 0, -1}
	refused(t, "arg behind an index", r, api.ErrArg)
	r.Samples = []int{3, 0, 0}
	refused(t, "too few, and an index", r, api.ErrArg)
	r.Samples = []int{3, 0, 0, 0, 0}
	refused(t, "too many, and an index", r, api.ErrArg)
	r.Alpha = []int{0, 256}
	refused(t, "alpha, arg, index", r, api.ErrPalette)
	r.Alpha, r.Clear = nil, []int{0}
	refused(t, "clear, arg, index", r, api.ErrPalette)
	r.Head.Depth = 16
	refused(t, "head, and all", r, api.ErrHead)
	for _, c := range []struct {
		r    api.Raster
		want api.Errno
	}{
		{api.Raster{Head: api.Head{W: 1, H: 1, Color: 3, Depth: 2}, Tints: tints(2)}, api.ErrIndex},
		{api.Raster{Head: api.Head{W: 1, H: 1, Color: 3, Depth: 2}, Tints: tints(5)}, api.ErrPalette},
		{api.Raster{Head: api.Head{W: 1, H: 1, Color: 3, Depth: 3}, Tints: tints(5)}, api.ErrHead},
		{api.Raster{Head: api.Head{W: 1, H: 1, Color: 3, Depth: 1}, Tints: tints(2)}, api.ErrArg},
	} {
		if got, e := Of(c.r, []int{3}); e != c.want || got != (api.Color{}) {
			t.Error(show(c.r), got, e)
		}
	}
}

// Of looks at the samples that it is given, whatever the raster's own are.
func TestP15_1OfSamples(t *testing.T) {
	each(2, 2, func(r api.Raster) {
		want := perPixel(r.Head.Color)
		end := power(r.Head.Depth)
		first, e := Of(r, ones(want))
		if e != api.OK {
			t.Fatal(show(r), e)
		}
		for _, own := range [][]int{nil, {}, {-1}, {end}, {end, -1, 1 << 40}, ones(4 * want), ones(4*want + 1)} {
			r.Samples = own
			for n := range 7 {
				ofAsSlow(t, r, ones(n))
				c, e := Of(r, ones(n))
				if n == want && (c != first || e != api.OK) || n != want && (c != api.Color{} || e != api.ErrArg) {
					t.Fatal(show(r), n, c, e)
				}
			}
			ofAsSlow(t, r, nil)
			for at := range want {
				for _, v := range []int{math.MinInt, -1, 0, 1, end - 1, end, end + 1, 1 << 32, math.MaxInt} {
					l := ones(want)
					l[at] = v
					ofAsSlow(t, r, l)
					if _, e := Of(r, l); (e == api.ErrArg) != (v < 0 || v >= end) {
						t.Fatal(show(r), l, e)
					}
				}
			}
		}
	})
}

func TestP15_1Colours(t *testing.T) {
	for name, c := range map[string]struct {
		r       api.Raster
		samples []int
		want    api.Color
	}{
		"grey":                   {api.Raster{Head: api.Head{Color: 0, Depth: 4}}, []int{5}, api.Color{R: 21845, G: 21845, B: 21845, A: 65535}},
		"grey of one bit":        {api.Raster{Head: api.Head{Color: 0, Depth: 1}}, []int{1}, api.Color{R: 65535, G: 65535, B: 65535, A: 65535}},
		"grey of 8 bits":         {api.Raster{Head: api.Head{Color: 0, Depth: 8}}, []int{2}, api.Color{R: 514, G: 514, B: 514, A: 65535}},
		"grey of 16 bits":        {api.Raster{Head: api.Head{Color: 0, Depth: 16}}, []int{2}, api.Color{R: 2, G: 2, B: 2, A: 65535}},
		"grey, Clear":            {api.Raster{Head: api.Head{Color: 0, Depth: 8}, Clear: []int{2}}, []int{2}, api.Color{R: 514, G: 514, B: 514}},
		"grey, not Clear":        {api.Raster{Head: api.Head{Color: 0, Depth: 8}, Clear: []int{3}}, []int{2}, api.Color{R: 514, G: 514, B: 514, A: 65535}},
		"grey, Clear is 0":       {api.Raster{Head: api.Head{Color: 0, Depth: 1}, Clear: []int{0}}, []int{0}, api.Color{}},
		"colours":                {api.Raster{Head: api.Head{Color: 2, Depth: 8}}, []int{1, 2, 3}, api.Color{R: 257, G: 514, B: 771, A: 65535}},
		"colours of 16 bits":     {api.Raster{Head: api.Head{Color: 2, Depth: 16}}, []int{1, 2, 3}, api.Color{R: 1, G: 2, B: 3, A: 65535}},
		"colours, Clear":         {api.Raster{Head: api.Head{Color: 2, Depth: 8}, Clear: []int{1, 2, 3}}, []int{1, 2, 3}, api.Color{R: 257, G: 514, B: 771}},
		"the first is not Clear": {api.Raster{Head: api.Head{Color: 2, Depth: 16}, Clear: []int{9, 2, 3}}, []int{1, 2, 3}, api.Color{R: 1, G: 2, B: 3, A: 65535}},
		"nor is the second":      {api.Raster{Head: api.Head{Color: 2, Depth: 16}, Clear: []int{1, 9, 3}}, []int{1, 2, 3}, api.Color{R: 1, G: 2, B: 3, A: 65535}},
		"nor the third":          {api.Raster{Head: api.Head{Color: 2, Depth: 16}, Clear: []int{1, 2, 9}}, []int{1, 2, 3}, api.Color{R: 1, G: 2, B: 3, A: 65535}},
		"Clear, but turned":      {api.Raster{Head: api.Head{Color: 2, Depth: 16}, Clear: []int{3, 2, 1}}, []int{1, 2, 3}, api.Color{R: 1, G: 2, B: 3, A: 65535}},
		"a table":                {api.Raster{Head: api.Head{Color: 3, Depth: 8}, Tints: []api.Tint{{}, {R: 1, G: 2, B: 3}}}, []int{1}, api.Color{R: 257, G: 514, B: 771, A: 65535}},
		"a table of one bit":     {api.Raster{Head: api.Head{Color: 3, Depth: 1}, Tints: []api.Tint{{}, {R: 255, G: 2, B: 3}}}, []int{1}, api.Color{R: 65535, G: 514, B: 771, A: 65535}},
		"with an Alpha":          {api.Raster{Head: api.Head{Color: 3, Depth: 2}, Tints: tints(3), Alpha: []int{9, 8}}, []int{1}, api.Color{R: 257, G: 254 * 257, B: 8 * 257, A: 8 * 257}},
		"without an Alpha":       {api.Raster{Head: api.Head{Color: 3, Depth: 2}, Tints: tints(3), Alpha: []int{9, 8}}, []int{2}, api.Color{R: 514, G: 253 * 257, B: 15 * 257, A: 65535}},
		"an Alpha of 0":          {api.Raster{Head: api.Head{Color: 3, Depth: 2}, Tints: tints(3), Alpha: []int{0}}, []int{0}, api.Color{G: 65535, B: 257}},
		"an Alpha of 255":        {api.Raster{Head: api.Head{Color: 3, Depth: 2}, Tints: tints(3), Alpha: []int{255}}, []int{0}, api.Color{G: 65535, B: 257, A: 65535}},
		"grey and cover":         {api.Raster{Head: api.Head{Color: 4, Depth: 8}}, []int{7, 2}, api.Color{R: 1799, G: 1799, B: 1799, A: 514}},
		"the same, 16 bits":      {api.Raster{Head: api.Head{Color: 4, Depth: 16}}, []int{7, 0}, api.Color{R: 7, G: 7, B: 7}},
		"colours and cover":      {api.Raster{Head: api.Head{Color: 6, Depth: 8}}, []int{1, 2, 3, 4}, api.Color{R: 257, G: 514, B: 771, A: 1028}},
		"the same, of 16 bits":   {api.Raster{Head: api.Head{Color: 6, Depth: 16}}, []int{1, 2, 3, 4}, api.Color{R: 1, G: 2, B: 3, A: 4}},
	} {
		c.r.Head.W, c.r.Head.H = 1, 1
		if got, e := Of(c.r, c.samples); got != c.want || e != api.OK {
			t.Error(name, got, e)
		}
		c.r.Samples = c.samples
		asSlow(t, c.r)
	}
}

// The pixels of an image stand row by row.
func TestP15_1ImageInOrder(t *testing.T) {
	for _, laced := range []bool{false, true} {
		r := api.Raster{Head: api.Head{W: 3, H: 2, Color: 4, Depth: 16, Laced: laced}, Samples: []int{1, 2, 3, 4, 5, 6, 7, 8, 9, 10, 11, 12}}
		want := api.Image{W: 3, H: 2}
		for i := range uint16(6) {
			v := 2*i + 1
			want.Pix = append(want.Pix, api.Color{R: v, G: v, B: v, A: v + 1})
		}
		if m, e := Image(r); !sameImage(m, want) || e != api.OK {
			t.Error(m, e)
		}
	}
}

// somewhat is a random raster, mostly one that may be.
func somewhat(rnd *rand.Rand) api.Raster {
	color := []int{0, 0, 2, 3, 3, 4, 6}[rnd.Intn(7)]
	depth := depths(color)[rnd.Intn(len(depths(color)))]
	end := power(depth)
	r := plain(1+rnd.Intn(6), 1+rnd.Intn(6), color, depth)
	r.Head.Laced = rnd.Intn(2) == 0
	few := min(end, 1+rnd.Intn(end)) // so that what covers nothing is met at times
	if rnd.Intn(2) == 0 {
		few = min(few, 3)
	}
	switch color {
	case 3:
		r.Tints = tints(few)
		r.Alpha = some(rnd, rnd.Intn(few+1), 256)
	case 0, 2:
		if rnd.Intn(2) == 0 {
			r.Clear = some(rnd, perPixel(color), few)
		}
	}
	r.Samples = some(rnd, len(r.Samples), few)
	return r
}

// spoil makes one thing of a raster another.
func spoil(rnd *rand.Rand, r *api.Raster) {
	end := power(max(0, min(r.Head.Depth, 16)))
	values := []int{-1, 0, 1, len(r.Tints), end - 1, end, end + 1, 255, 256, 1 << 40}
	v := values[rnd.Intn(len(values))]
	for _, l := range [][]int{r.Alpha, r.Clear, r.Samples} {
		if len(l) > 0 && rnd.Intn(3) == 0 {
			l[rnd.Intn(len(l))] = v
		}
	}
	switch rnd.Intn(10) {
	case 0:
		r.Head.W = v
	case 1:
		r.Head.H = v
	case 2:
		r.Head.Depth = rnd.Intn(19) - 1
	case 3:
		r.Head.Color = rnd.Intn(9) - 1
	case 4:
		r.Tints = tints(rnd.Intn(end + 2))
	case 5:
		r.Alpha = some(rnd, rnd.Intn(5), 256)
	case 6:
		r.Clear = some(rnd, rnd.Intn(5), end)
	case 7:
		r.Samples = append(r.Samples, 0)
	case 8:
		r.Samples = r.Samples[:rnd.Intn(len(r.Samples)+1)]
	case 9:
		r.Tints, r.Alpha = r.Tints[:(len(r.Tints)+1)/2], nil
	}
}

func TestP15_1ManyRasters(t *testing.T) {
	rnd := rand.New(rand.NewSource(154))
	met := map[api.Errno]int{}
	clear := 0
	for range 20000 {
		r := somewhat(rnd)
		if e := Check(r); e != api.OK {
			t.Fatal(show(r), e)
		}
		asSlow(t, r)
		m, _ := Image(r)
		for _, c := range m.Pix {
			if c.A == 0 {
				clear++
			}
		}
		for range 1 + rnd.Intn(2) {
			spoil(rnd, &r)
		}
		asSlow(t, r)
		met[Check(r)]++
	}
	for _, e := range []api.Errno{api.OK, api.ErrHead, api.ErrPalette, api.ErrArg, api.ErrIndex} {
		if met[e] < 100 {
			t.Error(e, met[e])
		}
	}
	if clear < 1000 {
		t.Error(clear)
	}
}

// Of each depth 0 is dark, the greatest sample is full, and none is darker than a smaller one.
func TestP15_3Levels(t *testing.T) {
	each(1, 1, func(r api.Raster) {
		if r.Head.Color == 3 {
			return
		}
		n := perPixel(r.Head.Color)
		end := power(r.Head.Depth)
		var last api.Color
		for v := range end {
			c, e := Of(r, slices.Repeat([]int{v}, n))
			if e != api.OK {
				t.Fatal(show(r), v, e)
			}
			if r.Head.Color == 0 || r.Head.Color == 2 {
				if c.A != 65535 {
					t.Fatal(show(r), v, c)
				}
				c.A = c.R
			}
			if v == 0 && c != (api.Color{}) || v == end-1 && c != (api.Color{R: 65535, G: 65535, B: 65535, A: 65535}) {
				t.Fatal(show(r), v, c)
			}
			// Of these kinds a greater one is even brighter.
			if v > 0 && (c.R <= last.R || c.G <= last.G || c.B <= last.B || c.A <= last.A) {
				t.Fatal(show(r), v, c, last)
			}
			last = c
		}
	})
}

// The same of a table's numbers, and of how much its colours cover.
func TestP15_3TableLevels(t *testing.T) {
	r := plain(1, 1, 3, 8)
	r.Alpha = make([]int, 256)
	for i := range 256 {
		r.Tints[i] = api.Tint{R: byte(i), G: byte(i), B: byte(i)}
		r.Alpha[i] = i
	}
	for i := range 256 {
		v := uint16(i) * 257
		if c, e := Of(r, []int{i}); c != (api.Color{R: v, G: v, B: v, A: v}) || e != api.OK {
			t.Fatal(i, c, e)
		}
	}
}

// copied is a raster whose lists are its own, with spare room behind them that is not to be touched.
func copied(r api.Raster) api.Raster {
	room := func(l []int) []int { return append(slices.Clone(l), -77, -78)[:len(l)] }
	r.Tints = append(slices.Clone(r.Tints), api.Tint{R: 77})[:len(r.Tints)]
	r.Alpha, r.Clear, r.Samples = room(r.Alpha), room(r.Clear), room(r.Samples)
	return r
}

// untouched is whether a raster that was copied is as it was.
func untouched(r, was api.Raster) bool {
	good := func(l, was []int) bool {
		return slices.Equal(l, was) && slices.Equal(l[len(l):len(l)+2], []int{-77, -78})
	}
	return r.Head == was.Head && slices.Equal(r.Tints, was.Tints) && r.Tints[:len(r.Tints)+1][len(r.Tints)] == api.Tint{R: 77} &&
		good(r.Alpha, was.Alpha) && good(r.Clear, was.Clear) && good(r.Samples, was.Samples)
}

// What is handed in stays as it was, its spare room too; no answer shares memory with it, or with another answer.
func TestP15_1Handed(t *testing.T) {
	rnd := rand.New(rand.NewSource(155))
	for range 500 {
		was := somewhat(rnd)
		r := copied(was)
		samples := append(slices.Clone(was.Samples[:perPixel(was.Head.Color)]), -5)
		one, e := Of(r, samples[:len(samples)-1])
		if e != api.OK || samples[len(samples)-1] != -5 || !slices.Equal(samples[:len(samples)-1], was.Samples[:len(samples)-1]) {
			t.Fatal(show(was), samples, e)
		}
		Check(r)
		m, e := Image(r)
		if e != api.OK || m.Pix[0] != one || !untouched(r, was) {
			t.Fatal("changed", show(was), show(r))
		}
		other, _ := Image(r)
		for i := range m.Pix {
			m.Pix[i] = api.Color{R: 7, A: 9}
		}
		for i := range r.Tints {
			r.Tints[i] = api.Tint{}
		}
		for _, l := range [][]int{r.Alpha, r.Clear, r.Samples} {
			for i := range l {
				l[i] = -9
			}
		}
		if want, _ := slowImage(was); !sameImage(other, want) {
			t.Fatal("shared", show(was))
		}
	}
}
