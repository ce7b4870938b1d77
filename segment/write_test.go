package segment

import (
	"math"
	"math/rand"
	"slices"
	"testing"

	"halftone/api"
)

func TestP22_1Examples(t *testing.T) {
	writes(t, api.Msg{Kind: api.KindAck, Boot: 1, Index: 2}, sealed([]byte{4, 0, 0, 0, 1, 0, 0, 0, 2, 0}))
	writes(t, api.Msg{Kind: api.KindAsk, Boot: 1}, sealed([]byte{1, 0, 0, 0, 1, 0, 0, 0, 0, 0, 0, 0, 0, 0}))
	writes(t, api.Msg{Kind: api.KindNo, Boot: 1, Code: 16}, sealed([]byte{5, 0, 0, 0, 1, 0, 16}))
}

// Of each kind each byte, with another number at each place.
func TestP22_1Bytes(t *testing.T) {
	for kind, behind := range map[int][]byte{
		1: {5, 6, 7, 8, 9, 0, 10, 11, 12},
		2: {5, 6, 7, 8, 9, 0, 13, 14, 15, 0, 10, 11, 12, 3, 16},
		3: {0x11, 0x12, 0x13, 0x14, 7, 21, 22, 23},
		4: {0x11, 0x12, 0x13, 0x14, 2, 0x11, 0x12, 0x13, 0x16, 0x11, 0x12, 0x13, 0x18, 0x2a, 0x2b, 0x2c, 0x2d, 0x3a, 0x3b, 0x3c, 0x3d},
		5: {5, 200},
	} {
		writes(t, plain(kind), sealed(append([]byte{byte(kind), 1, 2, 3, 4}, behind...)))
	}
}

// The sum stands behind with its lowest byte first.
func TestP22_1Sum(t *testing.T) {
	writes(t, api.Msg{Kind: api.KindAck, Boot: 1, Index: 2}, []byte{4, 0, 0, 0, 1, 0, 0, 0, 2, 0, 43, 121, 11, 19})
	writes(t, api.Msg{Kind: api.KindAsk, Boot: 1}, []byte{1, 0, 0, 0, 1, 0, 0, 0, 0, 0, 0, 0, 0, 0, 143, 243, 118, 163})
	writes(t, api.Msg{Kind: api.KindNo}, []byte{5, 0, 0, 0, 0, 0, 0, 217, 240, 84, 207})
}

// Of what may be otherwise, with the fields of each kind and with none.
func TestP22_1NoKind(t *testing.T) {
	for _, n := range []int{math.MinInt, -256, -1, 0, 6, 7, 8, 128, 255, 256, 257, 258, 259, 260, 261, 1<<32 + 1, 1<<32 + 5, math.MaxInt} {
		mayNot(t, api.Msg{Kind: n})
		mayNot(t, api.Msg{Kind: n, Boot: 1})
		for _, kind := range every {
			m := plain(kind)
			m.Kind = n
			mayNot(t, m)
		}
	}
	mayNot(t, api.Msg{})
}

func TestP22_1EveryBoot(t *testing.T) {
	for _, kind := range every {
		for _, boot := range []uint32{0, 1, 255, 256, 1<<31 - 1, 1 << 31, 1<<32 - 1} {
			m := plain(kind)
			m.Boot = boot
			writes(t, m, sealed(text(m)))
		}
	}
}

// Each number that a kind has, at its bounds and beside them.
func TestP22_1Bounds(t *testing.T) {
	for _, kind := range every {
		for _, s := range slots[kind] {
			m := plain(kind)
			m.Ranges = nil
			if kind == 2 && s == sizeSlot {
				m.At = 0
			}
			if kind == 2 && s == atSlot {
				m.Size = 1 << 20
			}
			for _, v := range []int{s.least, s.least + 1, s.most - 1, s.most} {
				m := with(m, s, v)
				writes(t, m, sealed(text(m)))
			}
			if s == sumSlot { // any
				continue
			}
			whole := 1 << (8 * s.size)
			for _, v := range []int{s.least - 1, s.most + 1, -1, whole, whole + s.least, whole + s.most, s.least - whole, 1<<32 + s.least, math.MinInt, math.MaxInt} {
				if v < s.least || v > s.most {
					mayNot(t, with(m, s, v))
				}
			}
		}
	}
}

// Each number that a kind hasn't, other than 0.
func TestP22_1NotItsOwn(t *testing.T) {
	for _, kind := range every {
		for _, s := range allSlots {
			if slices.Contains(slots[kind], s) {
				continue
			}
			for _, v := range []int{1, 2, s.most, s.most + 1, -1, 256, 1 << 16, 1 << 31, math.MinInt, math.MaxInt} {
				m := with(plain(kind), s, v)
				if value(m, s) != 0 {
					mayNot(t, m)
				}
			}
		}
	}
}

// Lists that a kind hasn't: empty, and of something.
func TestP22_1NotItsList(t *testing.T) {
	for _, kind := range every {
		m := plain(kind)
		want := sealed(text(m))
		if kind != 3 {
			m.Data = []byte{}
			writes(t, m, want)
			for _, n := range []int{1, 2, 1024, 1025} {
				m.Data = make([]byte, n)
				mayNot(t, m)
			}
			m.Data = nil
		}
		if kind != 4 {
			m.Ranges = [][2]int{}
			writes(t, m, want)
			for _, list := range [][][2]int{{{0, 0}}, {{1, 2}}, {{1 << 30, 1<<30 + 1}}, make([][2]int, 5)} {
				m.Ranges = list
				mayNot(t, m)
			}
		}
	}
}

func TestP22_1OfferAt(t *testing.T) {
	for _, size := range []int{1, 2, 255, 256, 1000, 1<<20 - 1, 1 << 20} {
		m := plain(2)
		m.Size = size
		for _, at := range []int{0, 1, size - 1, size} {
			m.At = at
			writes(t, m, sealed(text(m)))
		}
		for _, at := range []int{-1, size + 1, size + 256, 1<<20 + 1} {
			m.At = at
			mayNot(t, m)
			if at >= 0 {
				isRefused(t, sealed(text(m)), api.ErrForm)
			}
		}
	}
	m := plain(1)
	m.At = 1 << 20 // an ask's has no Size
	writes(t, m, sealed(text(m)))
}

func TestP22_1Data(t *testing.T) {
	rnd := rand.New(rand.NewSource(223))
	m := plain(3)
	for _, n := range []int{1, 2, 3, 4, 5, 255, 256, 257, 1022, 1023, 1024} {
		m.Data = some(rnd, n)
		writes(t, m, sealed(text(m)))
	}
	for _, n := range []int{0, 1025, 1026, 2048, 1<<16 + 1, 1 << 20} {
		m.Data = some(rnd, n)
		mayNot(t, m)
		isRefused(t, sealed(text(m)), api.ErrForm)
	}
	m.Data = nil
	mayNot(t, m)
}

// top is the greatest number of a range.
const top = 1<<31 - 1

func TestP22_1Ranges(t *testing.T) {
	for _, c := range []struct {
		index  int
		ranges [][2]int
		may    bool
	}{
		{0, nil, true},
		{0, [][2]int{}, true},
		{top, nil, true},
		{0, [][2]int{{1, 2}}, true},
		{2, [][2]int{{4, 6}}, true},
		{0, [][2]int{{1, top}}, true},
		{0, [][2]int{{top - 1, top}}, true},
		{top - 2, [][2]int{{top - 1, top}}, true},
		{0, [][2]int{{1, 2}, {3, 4}}, true},
		{0, [][2]int{{1, 2}, {3, 4}, {5, 6}}, true},
		{0, [][2]int{{1, 2}, {3, 4}, {5, 6}, {7, 8}}, true},
		{0, [][2]int{{1, 2}, {3, 4}, {5, 6}, {top - 1, top}}, true},
		{0, [][2]int{{1, 2}, {3, 4}, {5, 6}, {7, 8}, {9, 10}}, false}, // one more
		{0, [][2]int{{1, 9}, {9, 11}}, false},                         // they touch
		{0, [][2]int{{1, 9}, {8, 11}}, false},                         // they meet
		{0, [][2]int{{1, 9}, {1, 9}}, false},                          // twice
		{0, [][2]int{{1, 9}, {3, 5}}, false},                          // one within the other
		{0, [][2]int{{5, 9}, {1, 3}}, false},                          // the wrong order
		{0, [][2]int{{1, 2}, {3, 4}, {5, 6}, {6, 8}}, false},
		{0, [][2]int{{1, 2}, {3, 4}, {4, 6}, {7, 8}}, false},
		{0, [][2]int{{1, 1}}, false}, // empty
		{0, [][2]int{{5, 5}}, false},
		{0, [][2]int{{5, 3}}, false}, // turned round
		{0, [][2]int{{1, 2}, {4, 4}}, false},
		{0, [][2]int{{1, 2}, {9, 4}}, false},
		{5, [][2]int{{5, 7}}, false}, // at Index
		{5, [][2]int{{6, 7}}, true},
		{5, [][2]int{{4, 7}}, false},
		{0, [][2]int{{0, 7}}, false},
		{0, [][2]int{{-1, 7}}, false},
		{0, [][2]int{{-3, -1}}, false},
		{top - 1, [][2]int{{top, top}}, false},
		{top, [][2]int{{top, top}}, false},
		{top - 1, [][2]int{{top, top + 1}}, false},
		{0, [][2]int{{top - 1, top + 1}}, false},
		{0, [][2]int{{top, top + 1}}, false},
		{0, [][2]int{{top + 1, top + 2}}, false},
		{0, [][2]int{{1, 1 << 32}}, false},
		{0, [][2]int{{1, 1<<32 + 2}}, false},
		{0, [][2]int{{1<<32 + 1, 1<<32 + 2}}, false},
		{0, [][2]int{{1, 2}, {3, 1<<32 + 4}}, false},
		{0, [][2]int{{1, math.MaxInt}}, false},
		{0, [][2]int{{math.MaxInt - 1, math.MaxInt}}, false},
		{0, [][2]int{{math.MinInt, 2}}, false},
		{0, [][2]int{{1, math.MinInt}}, false},
		{0, [][2]int{{1, math.MaxInt}, {math.MinInt, 4}}, false},
		{0, [][2]int{{math.MinInt, math.MaxInt}}, false},
		{-1, [][2]int{{1, 2}}, false},
		{top + 1, nil, false},
		{top + 1, [][2]int{{top + 2, top + 3}}, false},
	} {
		m := api.Msg{Kind: api.KindAck, Boot: 9, Index: c.index, Ranges: c.ranges}
		if slowMay(m) != c.may {
			t.Fatal(m, "is told to be", !c.may)
		}
		asSlow(t, m)
	}
}

// Many more ranges than may be: as many as their byte would wrap round to fewer.
func TestP22_1ManyRanges(t *testing.T) {
	m := api.Msg{Kind: api.KindAck}
	for n := 1; n <= 600; n++ {
		m.Ranges = append(m.Ranges, [2]int{2*n + 1, 2*n + 2})
		asSlow(t, m)
	}
}

// All small pairs of ranges.
func TestP22_1EveryPair(t *testing.T) {
	t.Parallel()
	for index := range 3 {
		for at := range 7 * 7 * 7 * 7 {
			a, b, c, d := at%7, at/7%7, at/49%7, at/343
			asSlow(t, api.Msg{Kind: api.KindAck, Index: index, Ranges: [][2]int{{a, b}, {c, d}}})
		}
	}
}
