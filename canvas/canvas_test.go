package canvas

import (
	"math"
	"math/rand"
	"slices"
	"testing"

	"halftone/api"
)

func TestP19_1Example(t *testing.T) {
	red := api.Color{R: 65535, A: 65535}
	c := made(t, 2, 1)
	laid(t, c, api.Line{Spots: []api.Spot{{}}, Cols: []api.Color{red}})
	if n := c.Count(); n != 1 {
		t.Error(n)
	}
	if colour, ok := c.At(1, 0); ok || colour != (api.Color{}) {
		t.Error(colour, ok)
	}
	if v := c.View(false); !sameImage(v, api.Image{W: 2, H: 1, Pix: []api.Color{red, red}}) {
		t.Error(v)
	}
	if v := c.View(true); !sameImage(v, api.Image{W: 2, H: 1, Pix: []api.Color{red, {}}}) {
		t.Error(v)
	}
}

// mayBe holds that New makes a canvas of such sides just if the words say so.
func mayBe(t *testing.T, w, h int) {
	t.Helper()
	c, e := New(w, h)
	if !slowMay(w, h) {
		if c != nil || e != api.ErrArg {
			t.Fatal(w, h, c, e)
		}
		return
	}
	if c == nil || e != api.OK || c.Count() != 0 || c.Full() {
		t.Fatal(w, h, e)
	}
	if m := c.Image(); m.W != w || m.H != h || len(m.Pix) != w*h || len(c.Mask()) != w*h {
		t.Fatal(w, h, m.W, m.H, len(m.Pix), len(c.Mask()))
	}
}

func TestP19_1New(t *testing.T) {
	sides := []int{
		math.MinInt, math.MinInt32, -65536, -2048, -256, -2, -1, 0, 1, 2, 7, 8, 9, 31, 32, 33, 255, 256, 257, 2047, 2048, 2049,
		65535, 65536, 65537, math.MaxInt32, 1 << 32, 1<<32 + 1, 1 << 48, 1 << 62, math.MaxInt,
	}
	for _, w := range sides {
		for _, h := range sides {
			mayBe(t, w, h)
		}
	}
	// Every width with the height with which it just may be, and with one more.
	for w := 1; w <= api.MaxSide; w++ {
		most := min(api.MaxSide, api.MaxPixels/w)
		for _, side := range [][2]int{{w, most}, {most, w}, {w, most + 1}, {most + 1, w}} {
			mayBe(t, side[0], side[1])
		}
	}
}

func TestP19_1NewNamed(t *testing.T) {
	for _, c := range []struct {
		w, h int
		want api.Errno
	}{
		{1, 1, api.OK}, {2048, 1, api.OK}, {1, 2048, api.OK}, {2048, 32, api.OK}, {32, 2048, api.OK}, {256, 256, api.OK}, {255, 257, api.OK},
		{0, 1, api.ErrArg}, {1, 0, api.ErrArg}, {0, 0, api.ErrArg}, {-1, 1, api.ErrArg}, {1, -1, api.ErrArg}, {-1, -1, api.ErrArg}, {-8, -8, api.ErrArg},
		{2049, 1, api.ErrArg}, {1, 2049, api.ErrArg}, {257, 256, api.ErrArg}, {256, 257, api.ErrArg}, {2048, 33, api.ErrArg}, {33, 2048, api.ErrArg},
		{2048, 2048, api.ErrArg}, {1 << 32, 1 << 32, api.ErrArg}, {65536, 1, api.ErrArg}, {math.MaxInt, math.MaxInt, api.ErrArg}, {math.MinInt, 2, api.ErrArg},
	} {
		if got, e := New(c.w, c.h); e != c.want || (got == nil) != (e != api.OK) {
			t.Error(c, got, e)
		}
	}
}

// A new canvas: nothing is known, and the views show nothing.
func TestP19_1NothingKnown(t *testing.T) {
	for w := 1; w <= 18; w++ {
		for h := 1; h <= 18; h++ {
			asSlow(t, made(t, w, h), newSlow(w, h))
		}
	}
}

// half is a canvas of 5 by 4 of which the second row is known, and what the words say of it.
func half(t *testing.T) (*Canvas, slow) {
	t.Helper()
	c, s := made(t, 5, 4), newSlow(5, 4)
	l := lineOf(allSpots(5, 4)[5:10]...)
	laid(t, c, l)
	s.lay(l)
	return c, s
}

func spot(x, y int) api.Spot { return api.Spot{X: x, Y: y} }

// cols changes how many colours a line has.
func cols(l api.Line, n int) api.Line {
	l.Cols = make([]api.Color, n)
	return l
}

func TestP19_1LayNamed(t *testing.T) {
	for name, c := range map[string]struct {
		line api.Line
		want api.Errno
	}{
		"nothing":                                   {api.Line{}, api.OK},
		"empty lists":                               {api.Line{Spots: []api.Spot{}, Cols: []api.Color{}}, api.OK},
		"empty spots, no colours":                   {api.Line{Spots: []api.Spot{}}, api.OK},
		"one":                                       {lineOf(spot(3, 2)), api.OK},
		"the corners":                               {lineOf(spot(0, 0), spot(4, 0), spot(0, 3), spot(4, 3)), api.OK},
		"no row":                                    {lineOf(spot(4, 3), spot(1, 0), spot(2, 2)), api.OK},
		"all that isn't known":                      {lineOf(append(allSpots(5, 4)[:5], allSpots(5, 4)[10:]...)...), api.OK},
		"a colour without a spot":                   {cols(api.Line{}, 1), api.ErrArg},
		"a spot without a colour":                   {cols(lineOf(spot(0, 0)), 0), api.ErrArg},
		"one colour less":                           {cols(lineOf(spot(0, 0), spot(1, 0), spot(2, 0)), 2), api.ErrArg},
		"one colour more":                           {cols(lineOf(spot(0, 0), spot(1, 0), spot(2, 0)), 4), api.ErrArg},
		"left of it":                                {lineOf(spot(-1, 2)), api.ErrArg},
		"right of it":                               {lineOf(spot(5, 2)), api.ErrArg},
		"above it":                                  {lineOf(spot(2, -1)), api.ErrArg},
		"below it":                                  {lineOf(spot(2, 4)), api.ErrArg},
		"right of it, above a known one":            {lineOf(spot(5, 0)), api.ErrArg},
		"left of it, by a row's length":             {lineOf(spot(-5, 3)), api.ErrArg},
		"sides turned":                              {lineOf(spot(3, 4)), api.ErrArg},
		"as far right as may be":                    {lineOf(spot(math.MaxInt, 0)), api.ErrArg},
		"as far left as may be":                     {lineOf(spot(math.MinInt, 0)), api.ErrArg},
		"as far down as may be":                     {lineOf(spot(0, math.MaxInt)), api.ErrArg},
		"as far up as may be":                       {lineOf(spot(0, math.MinInt)), api.ErrArg},
		"as far as may be":                          {lineOf(spot(math.MaxInt, math.MaxInt)), api.ErrArg},
		"as far as may be, the other way":           {lineOf(spot(math.MinInt, math.MinInt)), api.ErrArg},
		"so far that its place wraps round to 0":    {lineOf(spot(1<<62, 1<<62), spot(0, 1<<62)), api.ErrArg},
		"beyond 32 bits":                            {lineOf(spot(1<<32, 0), spot(0, 1<<32)), api.ErrArg},
		"the last one beyond":                       {lineOf(spot(0, 0), spot(1, 0), spot(5, 0)), api.ErrArg},
		"the first one beyond":                      {lineOf(spot(0, 4), spot(1, 0), spot(2, 0)), api.ErrArg},
		"known":                                     {lineOf(spot(2, 1)), api.ErrOrder},
		"the last one known":                        {lineOf(spot(0, 0), spot(1, 0), spot(4, 1)), api.ErrOrder},
		"the first one known":                       {lineOf(spot(0, 1), spot(1, 0), spot(4, 0)), api.ErrOrder},
		"twice":                                     {lineOf(spot(0, 0), spot(0, 0)), api.ErrOrder},
		"twice, others between":                     {lineOf(spot(3, 3), spot(0, 0), spot(1, 0), spot(3, 3)), api.ErrOrder},
		"twice, and another behind":                 {lineOf(spot(3, 3), spot(3, 3), spot(1, 0)), api.ErrOrder},
		"three times":                               {lineOf(spot(3, 3), spot(3, 3), spot(3, 3)), api.ErrOrder},
		"known and twice":                           {lineOf(spot(3, 1), spot(3, 1)), api.ErrOrder},
		"more spots than pixels":                    {lineOf(append(allSpots(5, 4), allSpots(5, 4)...)...), api.ErrOrder},
		"known, and one colour less":                {cols(lineOf(spot(2, 1), spot(0, 0)), 1), api.ErrArg},
		"known, and one colour more":                {cols(lineOf(spot(2, 1)), 2), api.ErrArg},
		"twice, and one colour less":                {cols(lineOf(spot(0, 0), spot(0, 0)), 1), api.ErrArg},
		"known, and a later one beyond":             {lineOf(spot(2, 1), spot(0, 0), spot(5, 0)), api.ErrArg},
		"known, and an earlier one beyond":          {lineOf(spot(5, 0), spot(0, 0), spot(2, 1)), api.ErrArg},
		"twice, and a later one beyond":             {lineOf(spot(0, 0), spot(0, 0), spot(0, 4)), api.ErrArg},
		"one beyond, twice":                         {lineOf(spot(5, 0), spot(5, 0)), api.ErrArg},
		"one beyond, and no colours":                {cols(lineOf(spot(5, 0)), 0), api.ErrArg},
		"a colour that is zero":                     {cols(lineOf(spot(0, 0), spot(4, 3)), 2), api.OK},
		"known, with the colour that it has":        {lineOf(spot(1, 1)), api.ErrOrder},
		"laid below it, then the known one's place": {lineOf(spot(2, 2), spot(2, 1)), api.ErrOrder},
	} {
		t.Run(name, func(t *testing.T) {
			for _, pass := range []int{0, 1, 7, 8, -1, math.MaxInt, math.MinInt} {
				canvas, s := half(t)
				l := c.line
				l.Pass = pass
				if e := s.lay(l); e != c.want {
					t.Fatal("the words say", e)
				}
				if e := canvas.Lay(l); e != c.want {
					t.Error(pass, e)
				}
				asSlow(t, canvas, s)
			}
		})
	}
}

// What was refused may be laid once it is put right, though some of its spots stood in what was refused.
func TestP19_2RefusedThenLaid(t *testing.T) {
	c, s := half(t)
	free := append(allSpots(5, 4)[:5], allSpots(5, 4)[10:]...)
	for _, wrong := range []api.Spot{free[0], free[7], free[14], spot(0, 1), spot(4, 1), spot(5, 0), spot(-1, 1), spot(0, 4)} {
		for at := range len(free) + 1 {
			if c.Lay(lineOf(slices.Insert(slices.Clone(free), at, wrong)...)) == api.OK {
				t.Fatal(wrong, at)
			}
			asSlow(t, c, s)
		}
	}
	l := lineOf(free...)
	laid(t, c, l)
	s.lay(l)
	asSlow(t, c, s)
	if !c.Full() {
		t.Error("not full")
	}
}

// A pixel whose colour is zero is known all the same, and shown ahead of what is near.
func TestP19_1ZeroIsAColour(t *testing.T) {
	c := made(t, 2, 1)
	laid(t, c, lineOf(spot(0, 0)))
	laid(t, c, cols(api.Line{Spots: []api.Spot{spot(1, 0)}}, 1))
	if colour, ok := c.At(1, 0); !ok || colour != (api.Color{}) {
		t.Error(colour, ok)
	}
	if v := c.View(false); v.Pix[1] != (api.Color{}) {
		t.Error(v)
	}
	if !c.Full() || c.Count() != 2 || c.Lay(lineOf(spot(1, 0))) != api.ErrOrder {
		t.Error(c.Full(), c.Count())
	}
}

// All parts of a colour are kept, at their ends too.
func TestP19_1WholeColours(t *testing.T) {
	ends := []uint16{0, 1, 255, 256, 257, 32767, 32768, 65534, 65535}
	for _, r := range ends {
		for _, g := range ends {
			for _, b := range ends {
				for _, a := range ends {
					c := made(t, 1, 1)
					want := api.Color{R: r, G: g, B: b, A: a}
					laid(t, c, api.Line{Spots: []api.Spot{{}}, Cols: []api.Color{want}})
					if got, ok := c.At(0, 0); got != want || !ok || c.Image().Pix[0] != want || c.View(true).Pix[0] != want {
						t.Fatal(want, got)
					}
				}
			}
		}
	}
}

func TestP19_1AtBeyond(t *testing.T) {
	far := []int{math.MinInt, math.MinInt32, -1 << 32, -9, -8, -7, -4, -3, -2, -1, 0, 1, 2, 3, 4, 5, 6, 7, 8, 9, 1 << 32, 1 << 62, math.MaxInt32, math.MaxInt}
	for _, side := range [][2]int{{1, 1}, {4, 3}, {3, 4}, {1, 8}, {8, 1}} {
		c := made(t, side[0], side[1])
		for _, full := range []bool{false, true} {
			if full {
				laid(t, c, lineOf(allSpots(side[0], side[1])...))
			}
			for _, x := range far {
				for _, y := range far {
					on := full && x >= 0 && x < side[0] && y >= 0 && y < side[1]
					want := api.Color{}
					if on {
						want = tone(spot(x, y))
					}
					if got, ok := c.At(x, y); ok != on || got != want {
						t.Fatal(side, x, y, got, ok)
					}
				}
			}
		}
	}
}

// The greatest canvases are filled, pixel by pixel from the last one, and are full behind the first one only.
func TestP19_1Greatest(t *testing.T) {
	for _, side := range [][2]int{{256, 256}, {2048, 32}, {32, 2048}, {2048, 1}, {1, 2048}, {2047, 31}} {
		c := made(t, side[0], side[1])
		all := allSpots(side[0], side[1])
		for i := len(all) - 1; i >= 0; i-- {
			if c.Full() {
				t.Fatal(side, i)
			}
			laid(t, c, lineOf(all[i]))
			if c.Count() != len(all)-i {
				t.Fatal(side, i, c.Count())
			}
		}
		want := api.Image{W: side[0], H: side[1], Pix: lineOf(all...).Cols}
		if !c.Full() || !sameImage(c.Image(), want) || !sameImage(c.View(false), want) || !sameImage(c.View(true), want) {
			t.Fatal(side)
		}
	}
}

func TestP19_1NilCanvas(t *testing.T) {
	var c *Canvas
	for _, l := range []api.Line{{}, lineOf(spot(0, 0)), lineOf(spot(0, 0), spot(0, 0)), lineOf(spot(-1, 0)), cols(api.Line{}, 1)} {
		if e := c.Lay(l); e != api.ErrArg {
			t.Error(l, e)
		}
	}
	if c.Count() != 0 || c.Full() {
		t.Error(c.Count(), c.Full())
	}
	for _, x := range []int{math.MinInt, -1, 0, 1, math.MaxInt} {
		if colour, ok := c.At(x, x); ok || colour != (api.Color{}) {
			t.Error(x, colour, ok)
		}
	}
	for _, m := range []api.Image{c.Image(), c.View(false), c.View(true)} {
		if m.W != 0 || m.H != 0 || len(m.Pix) != 0 {
			t.Error(m)
		}
	}
	if m := c.Mask(); len(m) != 0 {
		t.Error(m)
	}
}

// An object that New didn't make may be called, too.
func TestP19_1NotMade(t *testing.T) {
	var c Canvas
	if c.Lay(api.Line{}) != api.OK || c.Lay(lineOf(spot(0, 0))) != api.ErrArg || c.Count() != 0 {
		t.Error(c)
	}
	if _, ok := c.At(0, 0); ok {
		t.Error("known")
	}
	if len(c.Mask()) != 0 || len(c.Image().Pix) != 0 || len(c.View(false).Pix) != 0 || len(c.View(true).Pix) != 0 {
		t.Error(c)
	}
}

// anyLine is a line of a few spots, some of them known, doubled, or beyond, with too few or too many colours now and then.
func anyLine(rnd *rand.Rand, w, h int) api.Line {
	l := api.Line{Pass: rnd.Intn(9) - 1}
	for range rnd.Intn(6) {
		l.Spots = append(l.Spots, spot(rnd.Intn(w), rnd.Intn(h)))
	}
	if rnd.Intn(8) == 0 {
		l.Spots = append(l.Spots, spot(rnd.Intn(w+2)-1, rnd.Intn(h+2)-1))
	}
	if rnd.Intn(12) == 0 && len(l.Spots) > 0 {
		l.Spots = append(l.Spots, l.Spots[rnd.Intn(len(l.Spots))])
	}
	rnd.Shuffle(len(l.Spots), func(i, j int) { l.Spots[i], l.Spots[j] = l.Spots[j], l.Spots[i] })
	n := len(l.Spots)
	if rnd.Intn(12) == 0 {
		n = max(0, n+rnd.Intn(3)-1)
	}
	for range n {
		l.Cols = append(l.Cols, api.Color{R: uint16(rnd.Intn(65536)), G: uint16(rnd.Intn(3)), B: uint16(rnd.Intn(65536)), A: uint16(rnd.Intn(65536))})
	}
	return l
}

// Any lines, right and wrong, one behind the other: the canvas is behind each one as the words say. What is known stays as it is.
func TestP19_2AnyLines(t *testing.T) {
	rnd := rand.New(rand.NewSource(191))
	answers := map[api.Errno]int{}
	for range 250 {
		w, h := 1+rnd.Intn(19), 1+rnd.Intn(19)
		c, s := made(t, w, h), newSlow(w, h)
		for range 60 {
			l := anyLine(rnd, w, h)
			want := s.lay(l)
			if e := c.Lay(l); e != want {
				t.Fatal(w, h, l, e, want)
			}
			answers[want]++
			asSlow(t, c, s)
		}
	}
	if answers[api.OK] < 1000 || answers[api.ErrArg] < 1000 || answers[api.ErrOrder] < 1000 {
		t.Error("too few of one kind", answers)
	}
}
