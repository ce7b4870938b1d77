package pixel

import (
	"fmt"
	"math/big"
	"slices"
	"strconv"
	"strings"

	"halftone/api"
)

// depths are those that go with each kind of colours.
func depths(color int) []int {
	switch color {
	case 0:
		return []int{1, 2, 4, 8, 16}
	case 2, 4, 6:
		return []int{8, 16}
	case 3:
		return []int{1, 2, 4, 8}
	}
	return nil
}

// perPixel is how many samples a pixel has.
func perPixel(color int) int { return map[int]int{0: 1, 2: 3, 3: 1, 4: 2, 6: 4}[color] }

// power is 2^n.
func power(n int) int {
	v := 1
	for range n {
		v *= 2
	}
	return v
}

func isOf(depth int) bool { return slices.Contains([]int{1, 2, 4, 8, 16}, depth) }

// slowPack writes all samples' bits as text, and reads that as bytes.
func slowPack(samples []int, depth int) ([]byte, api.Errno) {
	if !isOf(depth) {
		return nil, api.ErrArg
	}
	var text strings.Builder
	for _, v := range samples {
		if v < 0 || v > power(depth)-1 {
			return nil, api.ErrArg
		}
		fmt.Fprintf(&text, "%0*b", depth, v)
	}
	for text.Len()%8 != 0 {
		text.WriteByte('0')
	}
	var b []byte
	for row := text.String(); row != ""; row = row[8:] {
		v, _ := strconv.ParseUint(row[:8], 2, 8)
		b = append(b, byte(v))
	}
	return b, api.OK
}

// slowUnpack writes all bytes' bits as text, and reads that as samples.
func slowUnpack(b []byte, depth, n int) ([]int, api.Errno) {
	if !isOf(depth) || n < 0 {
		return nil, api.ErrArg
	}
	var text strings.Builder
	for _, v := range b {
		fmt.Fprintf(&text, "%08b", v)
	}
	var l []int
	for row := text.String(); n > 0; n-- {
		if len(row) < depth {
			return nil, api.ErrShort
		}
		v, _ := strconv.ParseUint(row[:depth], 2, depth)
		l, row = append(l, int(v)), row[depth:]
	}
	return l, api.OK
}

func slowMay(h api.Head) bool {
	if h.W < 1 || h.W > 2048 || h.H < 1 || h.H > 2048 {
		return false
	}
	return h.W*h.H <= 65536 && slices.Contains(depths(h.Color), h.Depth)
}

// within is whether all numbers are 0 to most.
func within(most int, l []int) bool {
	return !slices.ContainsFunc(l, func(v int) bool { return v < 0 || v > most })
}

// slowKind is what is wrong with a raster, but for its samples.
func slowKind(r api.Raster) api.Errno {
	if !slowMay(r.Head) {
		return api.ErrHead
	}
	most := power(r.Head.Depth) - 1
	tints, clears := len(r.Tints), len(r.Clear)
	good := false
	switch r.Head.Color {
	case 0:
		good = tints == 0 && len(r.Alpha) == 0 && (clears == 0 || clears == 1) && within(most, r.Clear)
	case 2:
		good = tints == 0 && len(r.Alpha) == 0 && (clears == 0 || clears == 3) && within(most, r.Clear)
	case 3:
		good = tints > 0 && tints <= most+1 && len(r.Alpha) <= tints && within(255, r.Alpha) && clears == 0
	case 4, 6:
		good = tints == 0 && len(r.Alpha) == 0 && clears == 0
	}
	if !good {
		return api.ErrPalette
	}
	return api.OK
}

// slowSamples is what is wrong with so many pixels' samples.
func slowSamples(r api.Raster, samples []int, pixels int) api.Errno {
	if len(samples) != pixels*perPixel(r.Head.Color) || !within(power(r.Head.Depth)-1, samples) {
		return api.ErrArg
	}
	if r.Head.Color == 3 && !within(len(r.Tints)-1, samples) {
		return api.ErrIndex
	}
	return api.OK
}

func slowCheck(r api.Raster) api.Errno {
	if e := slowKind(r); e != api.OK {
		return e
	}
	return slowSamples(r, r.Samples, r.Head.W*r.Head.H)
}

// slowLevel is v times 65535 / (2^d - 1), by fractions: that it is a whole number is held too.
func slowLevel(v, depth int) uint16 {
	f := new(big.Rat).Mul(big.NewRat(int64(v), 1), big.NewRat(65535, int64(power(depth)-1)))
	if !f.IsInt() {
		panic("no whole number")
	}
	return uint16(f.Num().Int64())
}

func slowOf(r api.Raster, samples []int) (api.Color, api.Errno) {
	if e := slowKind(r); e != api.OK {
		return api.Color{}, e
	}
	if e := slowSamples(r, samples, 1); e != api.OK {
		return api.Color{}, e
	}
	up := func(i int) uint16 { return slowLevel(samples[i], r.Head.Depth) }
	c := api.Color{A: 65535}
	switch r.Head.Color {
	case 0:
		c.R, c.G, c.B = up(0), up(0), up(0)
		if len(r.Clear) == 1 && samples[0] == r.Clear[0] {
			c.A = 0
		}
	case 2:
		c.R, c.G, c.B = up(0), up(1), up(2)
		if len(r.Clear) == 3 && samples[0] == r.Clear[0] && samples[1] == r.Clear[1] && samples[2] == r.Clear[2] {
			c.A = 0
		}
	case 3:
		t := r.Tints[samples[0]]
		c.R, c.G, c.B = slowLevel(int(t.R), 8), slowLevel(int(t.G), 8), slowLevel(int(t.B), 8)
		if samples[0] < len(r.Alpha) {
			c.A = slowLevel(r.Alpha[samples[0]], 8)
		}
	case 4:
		c = api.Color{R: up(0), G: up(0), B: up(0), A: up(1)}
	case 6:
		c = api.Color{R: up(0), G: up(1), B: up(2), A: up(3)}
	}
	return c, api.OK
}

func slowImage(r api.Raster) (api.Image, api.Errno) {
	if e := slowCheck(r); e != api.OK {
		return api.Image{}, e
	}
	m := api.Image{W: r.Head.W, H: r.Head.H}
	n := perPixel(r.Head.Color)
	for i := 0; i < len(r.Samples); i += n {
		c, _ := slowOf(r, r.Samples[i:i+n])
		m.Pix = append(m.Pix, c)
	}
	return m, api.OK
}

func sameImage(a, b api.Image) bool { return a.W == b.W && a.H == b.H && slices.Equal(a.Pix, b.Pix) }
