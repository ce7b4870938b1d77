package gif

import (
	"bytes"
	"math/rand"
	"slices"
	"testing"

	"halftone/api"
)

// refused holds that a file's fault is shown by just so many bytes of it, and that so many lines are told ahead of it.
func refused(t *testing.T, name string, b []byte, at int, e api.Errno, lines int) {
	t.Helper()
	d := New()
	l, got := d.Push(b[:at-1])
	if got != api.OK || len(l) != lines {
		t.Error(name, "too early:", got, len(l))
	}
	known, ok := d.Head()
	short := api.ErrShort
	if d.Done() {
		short = api.OK
	}
	l, got = d.Push(b[at-1 : at])
	if got != e {
		t.Error(name, "at its byte:", got, "not", e)
	}
	lines += len(l)
	for range 3 {
		for _, more := range [][]byte{b[at:], nil, {71}, {59}, plain(1, 1, 3).file(t)} {
			if l, got := d.Push(more); len(l) != 0 || got != e {
				t.Error(name, "behind it:", l, got)
			}
		}
		if h, still := d.Head(); h != known || still != ok || d.Done() || d.Told() != lines {
			t.Error(name, "behind it:", h, still, d.Done(), d.Told())
		}
	}
	if l, got := New().Push(b); len(l) != lines || got != e {
		t.Error(name, "all at once:", len(l), got)
	}
	if r, got := Read(b); !sameRaster(r, api.Raster{}) || got != e {
		t.Error(name, "Read:", got)
	}
	// Nothing need stand behind the byte that shows it.
	if r, got := Read(b[:at]); !sameRaster(r, api.Raster{}) || got != e {
		t.Error(name, "Read up to it:", got)
	}
	if _, got := Read(b[:at-1]); got != short {
		t.Error(name, "Read of less:", got)
	}
	asSlow(t, b, at-1, at)
}

// accepted holds that there is nothing wrong with a file.
func accepted(t *testing.T, name string, b []byte) {
	t.Helper()
	if _, e := Read(b); e != api.OK {
		t.Error(name, e)
	}
	asSlow(t, b)
}

// What is wrong with a beginning, at its byte, with a whole file behind it.
func TestP18_1WrongBeginning(t *testing.T) {
	m := plain(3, 2, 0, 1, 2, 3, 0, 1)
	right := m.file(t)
	n := 13 + 12 // ahead of the extensions
	for i := range 6 {
		for _, v := range []byte{0, 33, 44, 59, 255} {
			b := slices.Clone(right)
			b[i] = v
			refused(t, "name", b, i+1, api.ErrForm, 0)
		}
	}
	for i, v := range []byte{0, 9, 0, 9} {
		b := slices.Clone(right)
		b[6+i] = v
		refused(t, "sides", b, 13, api.ErrHead, 0)
	}
	for v := range 256 {
		b := slices.Insert(slices.Clone(right), n, byte(v))
		switch v {
		case 33, 44:
			asSlow(t, b)
		case 59:
			refused(t, "no picture", b, n+1, api.ErrMissing, 0)
		default:
			refused(t, "no part", b, n+1, api.ErrForm, 0)
		}
	}
	for i := range 8 {
		for _, turn := range []byte{1, 128, 33} {
			b := slices.Clone(right)
			b[n+1+i] ^= turn
			refused(t, "place", b, n+10, api.ErrHead, 0)
		}
	}
	for v := range 256 {
		b := slices.Clone(right)
		b[n+10] = byte(v)
		if v < 2 || v > 8 {
			refused(t, "bits", b, n+11, api.ErrForm, 0)
		} else {
			asSlow(t, b)
		}
	}
	none := slices.Concat(top(3, 2, 0, nil), place(0, 0, 3, 2, 0, nil, 2), right[n+11:])
	refused(t, "no table", none, 13+10, api.ErrPalette, 0)
	none = slices.Concat(top(3, 2, 0, nil), place(0, 0, 3, 3, 0, nil, 2), right[n+11:])
	refused(t, "place, no table", none, 13+10, api.ErrHead, 0)
}

// An extension 249 that is another one: at its blocks' end, alone, behind others, ahead of a right one, and however long it is.
func TestP18_1WrongCover(t *testing.T) {
	m := plain(2, 2, 0, 1, 2, 3)
	n := 13 + 12
	for _, parts := range [][][]byte{
		{},
		{{1}},
		{{1, 0, 0}},
		{{1, 0, 0, 1, 0}},
		{{1, 0}, {0}},
		{{1, 0}, {0, 1}},
		{{1}, {1}},
		{{1}, {0}, {0}, {1}},
		{{1, 0, 0, 1}, {1}},
		{{1, 0, 0, 1}, {1, 0, 0, 1}},
		{{1, 0, 0, 1}, {1, 0, 0, 1, 0, 33, 249}},
		{bytes.Repeat([]byte{1}, 255)},
		slices.Repeat([][]byte{{1, 0, 0, 1}}, 100),
		slices.Repeat([][]byte{bytes.Repeat([]byte{4}, 255)}, 20),
	} {
		wrong := aside(249, parts...)
		for _, ahead := range [][]byte{nil, covers(1), aside(1), slices.Concat(aside(254, []byte{9, 9}), covers(2), aside(255), covers(3))} {
			for _, behind := range [][]byte{nil, covers(1)} {
				m.ahead = slices.Concat(ahead, wrong, behind)
				refused(t, "cover", m.file(t), n+len(ahead)+len(wrong), api.ErrForm, 0)
			}
		}
	}
}

// Codes that there aren't: as a first one, as the first one behind a clear, and later.
func TestP18_1NoSymbol(t *testing.T) {
	m := plain(2, 3, 1, 1, 1, 1, 1, 1)
	for _, c := range []struct {
		list  []int // the last one is wrong
		lines int
	}{
		{[]int{6}, 0},
		{[]int{7}, 0},
		{[]int{4, 6}, 0},
		{[]int{4, 1, 7}, 0},
		{[]int{1, 1, 1, 4, 6}, 1},
		{[]int{4, 1, 6, 4, 7}, 1},
		{[]int{1, 1, 1, 1, 15}, 2},
		{[]int{1, 6, 1, 9}, 2},
	} {
		text, shows := codes(2, c.list...)
		for _, size := range []int{1, 255} {
			m.size = size
			b := m.with(t, append(text, 0, 0, 0))
			at := m.shows(shows[len(shows)-1])
			l, e := New().Push(b)
			if e != api.ErrSymbol || len(l) != c.lines {
				t.Error(c.list, e, len(l))
			}
			if l, e := New().Push(b[:at-1]); e != api.OK || len(l) > c.lines {
				t.Error(c.list, "too early", e, len(l))
			}
			if l, e := New().Push(b[:at]); e != api.ErrSymbol || len(l) != c.lines {
				t.Error(c.list, "at its byte", e, len(l))
			}
			asSlow(t, b, at-1, at)
		}
	}
}

// More pixels than there are: by one, and by a text that goes beyond them, of which the lines up to them are told.
func TestP18_1TooManyPixels(t *testing.T) {
	m := plain(1, 4, 1, 1, 1, 1)
	for _, c := range []struct {
		list []int // the last one is too much
		with int   // lines that it tells
	}{
		{[]int{4, 1, 1, 1, 1, 1}, 0},
		{[]int{4, 1, 1, 1, 1, 4, 1}, 0},
		{[]int{4, 1, 1, 1, 6}, 1},
		{[]int{4, 1, 6, 7}, 1},
		{[]int{4, 1, 6, 1, 6}, 0},
		{[]int{4, 1, 1, 6, 6}, 0},
		{[]int{4, 1, 6, 1, 1}, 0},
	} {
		text, shows := codes(2, c.list...)
		last := shows[len(shows)-1]
		for _, size := range []int{1, 255} {
			m.size = size
			b := m.with(t, append(slices.Clone(text), 0, 0))
			l, e := New().Push(b)
			if e != api.ErrLong || len(l) != 4 {
				t.Error(c.list, e, len(l))
			}
			d := New()
			if l, e := d.Push(b[:m.shows(last)-1]); e != api.OK || len(l) > 4-c.with {
				t.Error(c.list, "too early", e, len(l))
			}
			before := d.Told()
			if l, e := d.Push(b[m.shows(last)-1 : m.shows(last)]); e != api.ErrLong || before+len(l) != 4 {
				t.Error(c.list, "at its byte", e, len(l))
			}
			asSlow(t, b, m.shows(last)-1, m.shows(last))
		}
	}
	// Of a whole file's codes one more, and those of twice the picture.
	big := some(rand.New(rand.NewSource(201)), 9, 9, 256, 8)
	b := big.inOrder()
	twice := big
	twice.h, twice.samples = 18, append(slices.Clone(big.samples), big.samples...)
	file := append(slices.Clone(big.front()), twice.file(t)[len(twice.front()):]...)
	if l, e := New().Push(file); e != api.ErrLong || len(l) != 9 || len(b) != 81 {
		t.Error(e, len(l))
	}
	asSlow(t, file, by(file, 9)...)
}

// A number that there isn't: told when its line is complete, and that line isn't told.
func TestP18_1WrongIndex(t *testing.T) {
	for _, laced := range []bool{false, true} {
		for line := range 5 {
			for x := range 2 {
				for _, v := range []int{2, 3, 7} {
					m := plain(2, 5, 0, 1, 1, 0, 0, 0, 1, 1, 0, 1)
					m.laced, m.tints, m.least = laced, tints(2), 3
					list := []int{8}
					order := m.inOrder()
					order[2*line+x] = byte(v)
					for i, v := range order {
						if i > 0 && i%2 == 0 {
							list = append(list, 8)
						}
						list = append(list, int(v))
					}
					text, shows := codes(3, append(list, 9)...)
					for _, size := range []int{1, 3, 255} {
						m.size = size
						// The line's last code: behind the first clear each line has two, and a clear ahead of it.
						at := m.shows(shows[3*line+2])
						refused(t, "index", m.with(t, text), at, api.ErrIndex, told(t, m, text, at-1))
					}
				}
			}
		}
	}
}

// told is how many lines so many bytes of a file tell, by the slow reading.
func told(t *testing.T, m made, text []byte, n int) int { return slow(m.with(t, text)).told(n) }

// Every number of tints, and the first number that there isn't.
func TestP18_1FirstWrongIndex(t *testing.T) {
	for k := range 7 {
		n := 2 << k
		for least := max(2, k+2); least <= 8; least++ {
			m := plain(1, 2, n-1, n)
			m.tints, m.least = tints(n), least
			b := m.file(t)
			if l, e := New().Push(b); e != api.ErrIndex || len(l) != 1 {
				t.Error(n, least, e, len(l))
			}
			asSlow(t, b)
			m.samples = []int{n - 1, n - 1}
			accepted(t, "last", m.file(t))
		}
	}
}

// The codes end too early: at the byte that has end.
func TestP18_1MissingLines(t *testing.T) {
	m := plain(2, 3, 0, 1, 2, 3, 0, 1)
	for n := range 6 {
		list := []int{4}
		for _, v := range m.samples[:n] {
			list = append(list, v, 4)
		}
		text, shows := codes(2, append(list, 5)...)
		for _, size := range []int{1, 2, 255} {
			m.size = size
			at := m.shows(shows[len(shows)-1])
			b := m.with(t, text)
			refused(t, "lines", b, at, api.ErrMissing, told(t, m, text, at-1))
			if l, _ := New().Push(b); len(l) != n/2 {
				t.Error(n, len(l))
			}
		}
	}
	// Only an end.
	text, _ := codes(2, 5)
	refused(t, "nothing", m.with(t, text), m.shows(1), api.ErrMissing, 0)
}

// Bytes of the text behind the codes' end: in that block, and in a later one. A block's size is none of them.
func TestP18_1BehindTheCodes(t *testing.T) {
	m := plain(2, 2, 0, 1, 2, 3)
	text := m.text(t)
	for _, more := range [][]byte{{0}, {5}, {255}, text, make([]byte, 400)} {
		for size := 1; size <= len(text)+2; size++ {
			m.size = size
			refused(t, "text", m.with(t, slices.Concat(text, more)), m.shows(len(text)+1), api.ErrTrail, 2)
		}
	}
	m.size = len(text)
	accepted(t, "none", m.with(t, text))
}

// The blocks end and the codes haven't.
func TestP18_1MissingEnd(t *testing.T) {
	m := plain(2, 2, 0, 1, 2, 3)
	text := m.text(t)
	for n := range text {
		for _, size := range []int{1, 2, 255} {
			m.size = size
			lines := told(t, m, text, m.shows(n))
			refused(t, "end", m.with(t, text[:n]), m.shows(n)+1, api.ErrMissing, lines)
		}
	}
	// All lines are there, but no end.
	all, shows := codes(2, 4, 0, 1, 2, 3, 4, 4, 4, 4, 4) // 32 bits, so that nothing is filled up with noughts
	refused(t, "end", m.with(t, all), m.shows(shows[9])+1, api.ErrMissing, 2)
	long := some(rand.New(rand.NewSource(202)), 3, 3, 16, 4)
	b := slices.Concat(long.front(), []byte{0, 59})
	refused(t, "no blocks", b, len(b)-1, api.ErrMissing, 0)
}

// Every byte behind the picture, and behind extensions there.
func TestP18_1BehindThePicture(t *testing.T) {
	m := plain(2, 2, 0, 1, 2, 3)
	for _, parts := range [][]byte{nil, aside(249), slices.Concat(aside(1, []byte{59}), aside(44), aside(249, []byte{1}, []byte{2}))} {
		m.behind = parts
		right := m.file(t)
		n := len(right) - 1
		for v := range 256 {
			for _, more := range [][]byte{nil, {59}, {0, 59}, {249, 0, 59}, m.front()[13+12+1:]} {
				b := slices.Concat(right[:n], []byte{byte(v)}, more)
				switch v {
				case 33:
					asSlow(t, b)
				case 44:
					refused(t, "another picture", b, n+1, api.ErrOrder, 2)
				case 59:
					if len(more) > 0 {
						refused(t, "behind the end", b, n+2, api.ErrTrail, 2)
					}
				default:
					refused(t, "no part", b, n+1, api.ErrForm, 2)
				}
			}
		}
	}
}

// Every byte behind the end.
func TestP18_1BehindTheEnd(t *testing.T) {
	m := plain(2, 2, 0, 1, 2, 3)
	b := m.file(t)
	for v := range 256 {
		refused(t, "one", append(slices.Clone(b), byte(v)), len(b)+1, api.ErrTrail, 2)
		refused(t, "two", append(slices.Clone(b), byte(v), 59), len(b)+1, api.ErrTrail, 2)
	}
	refused(t, "another file", append(slices.Clone(b), b...), len(b)+1, api.ErrTrail, 2)
}

// Of two things the one of the earlier byte counts, though both come in one push, and the other is named first.
func TestP18_1EarliestByte(t *testing.T) {
	m := plain(1, 6, 1, 1, 1, 1, 1, 1)
	m.tints, m.least, m.size = tints(2), 8, 1
	at := func(shows []int, i int) int { return m.shows(shows[i]) }
	// Codes of nine bits: each is shown by a byte of its own.
	text, shows := codes(8, 256, 1, 2, 1, 500, 1)
	refused(t, "index, symbol", m.with(t, text), at(shows, 2), api.ErrIndex, 1)
	text, shows = codes(8, 256, 1, 2, 257)
	refused(t, "index, lines", m.with(t, text), at(shows, 2), api.ErrIndex, 1)
	text, shows = codes(8, 256, 1, 1, 1, 1, 1, 2, 1)
	refused(t, "index, too much", m.with(t, text), at(shows, 6), api.ErrIndex, 5)
	text, shows = codes(8, 256, 1, 500, 2)
	refused(t, "symbol, index", m.with(t, text), at(shows, 2), api.ErrSymbol, 1)
	text, shows = codes(8, 256, 1, 257)
	refused(t, "lines, text", m.with(t, append(text, 9, 9)), at(shows, 2), api.ErrMissing, 1)
	text, shows = codes(8, 256, 1, 1, 1, 1, 1, 1, 257)
	b := m.with(t, append(text, 9, 9))
	b[len(b)-1] = 44
	refused(t, "text, another picture", b, m.shows(len(text)+1), api.ErrTrail, 6)
	b = m.with(t, text)
	b[len(b)-1] = 44
	refused(t, "another picture, trail", append(b, 44, 7), len(b), api.ErrOrder, 6)
	b[len(b)-1] = 43
	refused(t, "no part, another picture", append(b, 44, 59), len(b), api.ErrForm, 6)
	b = m.with(t, text[:len(text)-1])
	b[len(b)-1] = 44
	refused(t, "no end, another picture", b, len(b)-1, api.ErrMissing, 6)
	// A wrong beginning ahead of all.
	b = m.with(t, text)
	b[8] = 7
	refused(t, "place, all else", b, 13+6+10, api.ErrHead, 0)
	m.least = 9
	b = slices.Concat(m.front(), []byte{1, 255, 0, 44})
	refused(t, "bits, symbol", b, len(m.front()), api.ErrForm, 0)
}

// Of one byte that shows several things the first named counts; lines ahead of all of them are told.
func TestP18_1OneByte(t *testing.T) {
	for _, c := range []struct {
		name  string
		h     int
		list  []int // seven codes of 3 bits: the last two are shown by the third byte
		e     api.Errno
		lines int
	}{
		{"index, lines", 9, []int{4, 4, 4, 4, 1, 2, 5}, api.ErrIndex, 1},
		{"a line, lines", 9, []int{4, 4, 4, 4, 4, 1, 5}, api.ErrMissing, 1},
		{"index, symbol", 9, []int{4, 4, 4, 4, 4, 2, 7}, api.ErrSymbol, 0},
		{"index, a line", 9, []int{4, 4, 4, 4, 4, 2, 1}, api.ErrIndex, 0},
		{"a line, symbol", 9, []int{4, 4, 4, 4, 4, 1, 7}, api.ErrSymbol, 1},
		{"a line, index", 9, []int{4, 4, 4, 4, 4, 1, 2}, api.ErrIndex, 1},
		{"index, too much", 2, []int{4, 4, 4, 4, 1, 2, 1}, api.ErrLong, 1},
		{"index, too much by a text", 1, []int{4, 4, 4, 4, 4, 2, 6}, api.ErrLong, 0},
		{"a line, too much", 2, []int{4, 4, 4, 4, 1, 1, 1}, api.ErrLong, 2},
		{"all lines, end", 2, []int{4, 4, 4, 4, 1, 1, 5}, api.OK, 2},
	} {
		m := plain(1, c.h)
		m.tints = tints(2)
		text, shows := codes(2, c.list...)
		if last := shows[len(shows)-1]; last != 3 || shows[5] != 3 {
			t.Fatal(c.name, shows)
		}
		for _, size := range []int{1, 255} {
			m.size = size
			b := m.with(t, text)
			if c.e == api.OK {
				accepted(t, c.name, b)
				continue
			}
			l, e := New().Push(b)
			if e != c.e || len(l) != c.lines {
				t.Error(c.name, e, len(l), "not", c.e, c.lines)
			}
			if _, e := New().Push(b[:m.shows(3)-1]); e != api.OK {
				t.Error(c.name, "too early", e)
			}
			if l, e := New().Push(b[:m.shows(3)]); e != c.e || len(l) != c.lines {
				t.Error(c.name, "at its byte", e, len(l))
			}
			asSlow(t, b, m.shows(3)-1, m.shows(3))
		}
	}
}

// Any codes, few of them, so that many stand in one byte: what is told, and what is wrong, is as the slow reading says.
func TestP18_1AnyCodes(t *testing.T) {
	rnd := rand.New(rand.NewSource(203))
	met := map[api.Errno]int{}
	for range 12000 {
		m := plain(1+rnd.Intn(3), 1+rnd.Intn(5))
		m.laced = rnd.Intn(2) == 0
		m.least = 2 + rnd.Intn(2)
		m.size = 1 + rnd.Intn(6)
		m.tints = tints(2 << rnd.Intn(2))
		stop := 1 << m.least
		few := [][]int{{0, 1}, {0, 1, stop}, {0, 1, 2, 3}, {0, 1, stop + 2, stop + 3}, {0, 0, 0, 0, 0, 1, stop + 1}}[rnd.Intn(5)]
		var list []int
		for range 1 + rnd.Intn(m.w*m.h+2) {
			list = append(list, few[rnd.Intn(len(few))])
		}
		if rnd.Intn(5) > 0 {
			list = append(list, stop+1)
		}
		text, _ := codes(m.least, list...)
		if rnd.Intn(4) == 0 {
			text = append(text, byte(rnd.Intn(256)))
		}
		b := m.with(t, text)
		met[asSlow(t, b, by(b, 1+rnd.Intn(9))...).fault.e]++
	}
	for _, e := range []api.Errno{api.OK, api.ErrIndex, api.ErrMissing, api.ErrLong, api.ErrSymbol, api.ErrTrail} {
		if met[e] == 0 {
			t.Error("no file with", e)
		}
	}
}

// Lines that were told ahead of an error in the same push are told.
func TestP18_1LinesAheadOfAnError(t *testing.T) {
	m := plain(2, 3, 1, 2, 3, 0, 1, 5)
	m.least = 3
	d := New()
	l, e := d.Push(m.file(t))
	if len(l) != 2 || e != api.ErrIndex || d.Told() != 2 || d.Done() {
		t.Fatal(l, e, d.Told())
	}
	for i, v := range []int{1, 2, 3, 0} {
		c := tints(4)[v]
		if got := l[i/2].Cols[i%2]; got != (api.Color{R: uint16(c.R) * 257, G: uint16(c.G) * 257, B: uint16(c.B) * 257, A: 65535}) {
			t.Error(i, got)
		}
	}
	if h, ok := d.Head(); h != m.head() || !ok {
		t.Error(h, ok)
	}
}
