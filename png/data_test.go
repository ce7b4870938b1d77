package png

import (
	"encoding/binary"
	"math/rand"
	"slices"
	"testing"

	"halftone/api"
	"halftone/bits"
)

// ahead is how many bytes stand ahead of the first stored byte: what is in front, size and kind, the wrapping's head, the block's.
func ahead(r api.Raster) int { return len(front(r)) + 8 + 2 + 5 }

// withText is a file of a raster's front whose lines' bytes are any text.
func withText(r api.Raster, text []byte) []byte {
	return slices.Concat(front(r), part("IDAT", stored(text, 60000, false)...), iend)
}

func TestP16_1WrongFilter(t *testing.T) {
	r := grey(2, 3, 1, 2, 3, 4, 5, 6)
	right := text(t, r, inTurn)
	for line := range 3 {
		for _, v := range []byte{5, 6, 127, 128, 255} {
			b := slices.Clone(right)
			b[3*line] = v
			refused(t, "filter", withText(r, b), ahead(r)+3*line+1, api.ErrFilter, line)
			// It is enough that the byte is there: nothing need stand behind it.
			f := withText(r, b)[:ahead(r)+3*line+1]
			refused(t, "filter last", f, len(f), api.ErrFilter, line)
		}
	}
	// The filter's byte of a line of a later pass.
	laced := some(rand.New(rand.NewSource(181)), api.Head{W: 8, H: 8, Color: 0, Depth: 1, Laced: true})
	b := text(t, laced, inTurn)
	at := 0
	for i, l := range slowLines(laced.Head) {
		spoilt := slices.Clone(b)
		spoilt[at] = 5
		refused(t, "laced", withText(laced, spoilt), ahead(laced)+at+1, api.ErrFilter, i)
		at += slowSize(laced.Head, len(l.Spots))
	}
}

func TestP16_1WrongIndex(t *testing.T) {
	r := listedOf(2, 3, 0, 1, 2, 0, 1, 2)
	right := text(t, r, always(0))
	for line := range 3 {
		for _, v := range []byte{3, 4, 255} {
			for _, x := range []int{1, 2} {
				b := slices.Clone(right)
				b[3*line+x] = v
				refused(t, "index", withText(r, b), ahead(r)+3*line+3, api.ErrIndex, line)
			}
		}
	}
	for _, depth := range []int{1, 2, 4} {
		h := api.Head{W: 3, H: 2, Color: 3, Depth: depth}
		n := 1<<depth - 1
		r := api.Raster{Head: h, Tints: tints(n), Samples: []int{0, 0, n - 1, 0, 0, 0}}
		b := text(t, r, always(0))
		accepted(t, "least", withText(r, b))
		size := slowSize(h, 3)
		spoilt := slices.Clone(b)
		// The last sample of the second line is a number more than there are.
		at := 2 * depth
		spoilt[size+1+at/8] |= byte(n << (8 - depth - at%8))
		refused(t, "small index", withText(r, spoilt), ahead(r)+2*size, api.ErrIndex, 1)
	}
}

// The numbers of a filtered line are those that it is in the end.
func TestP16_1FilteredIndex(t *testing.T) {
	r := listedOf(2, 2, 2, 2, 0, 0)
	// 2 2 and, by what is above, 0 1: 2 3.
	refused(t, "up", withText(r, []byte{0, 2, 2, 2, 0, 1}), ahead(r)+6, api.ErrIndex, 1)
	// 2 2 and, by what is above, 255 255: 1 1.
	accepted(t, "up", withText(r, []byte{0, 2, 2, 2, 255, 255}))
	if got, e := Read(withText(r, []byte{0, 2, 2, 2, 255, 255})); !slices.Equal(got.Samples, []int{2, 2, 1, 1}) || e != api.OK {
		t.Error(got.Samples, e)
	}
}

func TestP16_1TooFewAndTooMany(t *testing.T) {
	r := grey(2, 3, 1, 2, 3, 4, 5, 6)
	right := text(t, r, inTurn)
	for n := range right {
		// The end is shown by the foot's last byte.
		packed := stored(right[:n], 60000, false)
		f := slices.Concat(front(r), part("IDAT", packed...), iend)
		refused(t, "too few", f, len(front(r))+8+len(packed), api.ErrMissing, n/3)
		// A wrong foot is named first.
		packed[len(packed)-1] ^= 1
		f = slices.Concat(front(r), part("IDAT", packed...), iend)
		refused(t, "too few, and a wrong foot", f, len(front(r))+8+len(packed), api.ErrSum, n/3)
	}
	accepted(t, "right", withText(r, right))
	for n := 1; n < 5; n++ {
		refused(t, "too many", withText(r, append(slices.Clone(right), make([]byte, n)...)), ahead(r)+len(right)+1, api.ErrLong, 3)
	}
	// That there are too many counts, not what they are.
	refused(t, "too many", withText(r, append(slices.Clone(right), 9)), ahead(r)+len(right)+1, api.ErrLong, 3)
	wrongFoot := stored(right, 60000, false)
	wrongFoot[len(wrongFoot)-3] ^= 1
	refused(t, "a wrong foot", slices.Concat(front(r), part("IDAT", wrongFoot...), iend), len(front(r))+8+len(wrongFoot), api.ErrSum, 3)
}

// Bytes behind the packed ones' end: in that IDAT, and in a later one.
func TestP16_1BehindThePacked(t *testing.T) {
	r := grey(2, 2, 1, 2, 3, 4)
	packed := pack(t, text(t, r, inTurn), 1)
	none := part("IDAT")
	end := len(front(r)) + 8 + len(packed)
	for _, more := range [][]byte{{0}, {120, 156}, packed, make([]byte, 3000)} {
		same := slices.Concat(front(r), part("IDAT", append(slices.Clone(packed), more...)...), iend)
		refused(t, "in that IDAT", same, end+1, api.ErrTrail, 2)
		later := slices.Concat(front(r), part("IDAT", packed...), part("IDAT", more...), iend)
		refused(t, "in a later one", later, end+4+8+1, api.ErrTrail, 2)
		later = slices.Concat(front(r), part("IDAT", packed...), none, none, part("IDAT", more...), iend)
		refused(t, "in one still later", later, end+4+12+12+8+1, api.ErrTrail, 2)
	}
	accepted(t, "nothing in a later one", slices.Concat(front(r), part("IDAT", packed...), none, none, iend))
}

// The errors of the packing: each at its byte, behind the lines that were told.
func TestP16_1Packing(t *testing.T) {
	r := grey(1, 3, 1, 2, 3)
	text := []byte{0, 1, 0, 2, 0, 3}
	at := len(front(r)) + 8
	in := func(name string, packed []byte, shows int, e api.Errno, lines int) {
		t.Helper()
		refused(t, name, slices.Concat(front(r), part("IDAT", packed...), iend), at+shows, e, lines)
	}
	block := func(last byte, b []byte) []byte {
		out := binary.LittleEndian.AppendUint16([]byte{last}, uint16(len(b)))
		return append(binary.LittleEndian.AppendUint16(out, ^uint16(len(b))), b...)
	}
	two := append([]byte{120, 156}, block(0, text[:4])...)
	in("no wrapping", []byte{120, 157, 1, 2, 3}, 2, api.ErrForm, 0)
	in("another packing", []byte{121, 156, 1, 2, 3}, 2, api.ErrForm, 0)
	in("with other bytes", []byte{120, 187, 1, 2, 3}, 2, api.ErrForm, 0)
	in("kind 3", append(slices.Clone(two), 7, 7), len(two)+1, api.ErrForm, 2)
	in("a stored block's size", append(slices.Clone(two), 1, 3, 0, 3, 0, 9), len(two)+5, api.ErrStored, 2)
	in("a told block's counts", append(slices.Clone(two), 0xfd, 0x00, 0x00), len(two)+3, api.ErrCode, 2)

	w := newFixed()
	w.literals(0, 1, 0)
	w.copy(3, 9)
	packed, shows := w.wrapped(text)
	in("too far", packed, shows, api.ErrFar, 1)

	w = newFixed()
	w.literals(0, 1)
	w.bits(198, 8) // the symbol 286
	packed, shows = w.wrapped(text)
	in("no symbol", packed, shows, api.ErrSymbol, 1)

	w = newFixed()
	w.literals(0, 1, 0, 2, 0)
	w.copy(3, 2)
	packed, shows = w.wrapped(text)
	in("too long a copy", packed, shows, api.ErrLong, 2)
}

// fixed writes a last block of fixed codes, behind a wrapping's head.
type fixed struct{ w *bits.Writer }

func newFixed() fixed {
	w := bits.NewWriter()
	w.Put(120|156<<8, 16)
	w.Put(1|1<<1, 3)
	return fixed{w}
}

// bits writes a word, the highest bit first.
func (f fixed) bits(v, n int) {
	for i := n - 1; i >= 0; i-- {
		f.w.Put(v>>i, 1)
	}
}

func (f fixed) literals(l ...int) {
	for _, v := range l {
		if v < 144 {
			f.bits(48+v, 8)
		} else {
			f.bits(400+v-144, 9)
		}
	}
}

// copy writes a copy of 3 to 10 bytes; of the distances those are written that have at most 2 bits more.
func (f fixed) copy(length, distance int) {
	f.bits(length-2, 7)
	switch {
	case distance <= 4:
		f.bits(distance-1, 5)
	case distance <= 8:
		f.bits(4+(distance-5)/2, 5)
		f.w.Put((distance-5)%2, 1)
	default:
		f.bits(6+(distance-9)/4, 5)
		f.w.Put((distance-9)%4, 2)
	}
}

// shows is how many bytes show what was written last.
func (f fixed) shows() int { return (f.w.Len() + 7) / 8 }

// wrapped is all that was written, bits of noughts behind it, and the text's sum; and how many of these bytes show what was written last.
func (f fixed) wrapped(text []byte) (packed []byte, shows int) {
	shows = f.shows()
	f.bits(0, 7)
	return wrap(f.w.Out(), text)[2:], shows
}

// Of two things the one of the earlier byte counts, though both come in one push, and the other is named first.
func TestP16_1EarliestByte(t *testing.T) {
	r := listedOf(2, 3, 0, 1, 2, 0, 1, 2)
	at := len(front(r)) + 8
	// The second line's filter is wrong, the sum is, too; the block has a wrong size behind it; there is too much.
	b := []byte{0, 0, 1, 9, 2, 0, 0, 1, 2}
	f := withText(r, b)
	f[len(f)-20] ^= 1
	refused(t, "filter, sum", f, ahead(r)+4, api.ErrFilter, 1)
	refused(t, "filter, too much", withText(r, append(slices.Clone(b), 7, 7)), ahead(r)+4, api.ErrFilter, 1)
	b[3], b[4] = 0, 3
	refused(t, "index, too much", withText(r, append(slices.Clone(b), 7, 7)), ahead(r)+6, api.ErrIndex, 1)
	// The index ahead of a wrong filter.
	b[6] = 9
	refused(t, "index, filter", withText(r, b), ahead(r)+6, api.ErrIndex, 1)
	// A line ahead of a wrong packing, and the other way round.
	packed := slices.Concat([]byte{120, 156, 0, 4, 0, 251, 255}, []byte{0, 0, 1, 9}, []byte{7})
	refused(t, "filter, packing", slices.Concat(front(r), part("IDAT", packed...), iend), at+11, api.ErrFilter, 1)
	packed = slices.Concat([]byte{120, 156, 0, 3, 0, 252, 255}, []byte{0, 0, 1}, []byte{7, 9})
	refused(t, "packing", slices.Concat(front(r), part("IDAT", packed...), iend), at+11, api.ErrForm, 1)
	// What is wrong with the data counts ahead of what is wrong with the chunk behind it, and of the chunk's sum.
	wrong := withText(r, []byte{0, 0, 1, 9, 2, 0, 0, 1, 2})
	wrong = append(wrong[:len(wrong)-len(iend)], part("ABCD")...)
	refused(t, "filter, order", wrong, ahead(r)+4, api.ErrFilter, 1)
	// The order counts ahead of what is wrong with the chunk's data.
	parts := [][]byte{ihdr(r.Head), part("IDAT", 9, 9, 9), iend}
	refused(t, "table, packing", file(parts...), shownBy(parts, 1), api.ErrPalette, 0)
	// Of two chunks the first one's fault counts.
	parts = [][]byte{ihdr(r.Head), part("tEXt", 1), part("ABCD"), part("1234")}
	refused(t, "order, kind", file(parts...), shownBy(parts, 2), api.ErrOrder, 0)
}

// Of one byte that shows several things the first named counts.
func TestP16_1OneByte(t *testing.T) {
	in := func(name string, r api.Raster, w fixed, e api.Errno, ahead, with int) {
		t.Helper()
		packed, shows := w.wrapped(nil)
		f := slices.Concat(front(r), part("IDAT", packed...), iend)
		refused(t, name, f, len(front(r))+8+shows, e, ahead)
		if l, got := New().Push(f); got != e || len(l) != ahead+with {
			t.Error(name, got, len(l))
		}
	}
	w := newFixed()
	w.literals(0, 0, 1, 2, 0, 1, 9)
	w.copy(3, 1)
	in("a line with a wrong number, then a wrong filter", listedOf(3, 3), w, api.ErrFilter, 1, 0)
	// The second line is 4 0, filtered, the third one 2 255: 1 and 0. The fourth one is 0 4, the fifth one 0 2.
	w = newFixed()
	w.literals(0, 1, 4, 0, 2, 255, 0)
	w.copy(3, 5)
	in("a line with a wrong number, then a right one", listedOf(1, 9), w, api.ErrIndex, 3, 0)
	w = newFixed()
	w.literals(0, 1, 4, 0, 2, 255, 0)
	w.copy(4, 5)
	in("a line with a wrong number, a right one, then a wrong filter", listedOf(1, 9), w, api.ErrFilter, 3, 0)
	w = newFixed()
	w.literals(0, 9)
	w.copy(10, 1)
	in("a wrong filter, then too much", grey(1, 3), w, api.ErrLong, 1, 0)
	w = newFixed()
	w.literals(0, 0, 1, 0, 4)
	w.copy(4, 1)
	in("a wrong number, then too much", listedOf(2, 2), w, api.ErrLong, 1, 0)
	w = newFixed()
	w.literals(0)
	w.copy(6, 1)
	in("lines, then too much", grey(1, 3), w, api.ErrLong, 0, 3)
	w = newFixed()
	w.literals(0, 9, 0)
	w.copy(3, 3)
	in("a line, then a wrong filter", grey(1, 9), w, api.ErrFilter, 1, 1)
}

// told writes a last block whose symbols 0, 9, 256 and 257 have two bits each, and whose one distance is 1; there is no word for another one.
func told() fixed {
	w := bits.NewWriter()
	w.Put(120|156<<8, 16)
	w.Put(1|2<<1, 3)
	w.Put(1, 5) // 258 literal lengths
	w.Put(0, 5)
	w.Put(15, 4) // all 19 lengths of the lengths' code: four bits for each of 0 to 15
	f := fixed{w}
	for i := range 19 {
		n := 4
		if i < 3 {
			n = 0
		}
		w.Put(n, 3)
	}
	for sym := range 258 {
		n := 0
		if slices.Contains([]int{0, 9, 256, 257}, sym) {
			n = 2
		}
		f.bits(n, 4)
	}
	f.bits(1, 4)
	return f
}

// A wrong filter, or the end of a line, and bits that are no symbol's, in one byte and in two: in one the packing is named first, and the line is told.
func TestP16_1PackingInOneByte(t *testing.T) {
	const nought, nine, length = 0, 1, 3
	r := grey(1, 40, slices.Repeat([]int{0}, 40)...)
	at := len(front(r)) + 8
	met := map[api.Errno]int{}
	for before := range 8 {
		for _, last := range []int{nought, nine} {
			w := told()
			for range 2 * before {
				w.bits(nought, 2)
			}
			w.bits(last, 2) // a filter
			filter := w.shows()
			w.bits(length, 2)
			w.bits(1, 1) // no distance
			packed, shows := w.wrapped(nil)
			e := api.ErrSymbol
			if last == nine && filter < shows {
				e, shows = api.ErrFilter, filter
			}
			if last == nine {
				met[e]++
			}
			f := slices.Concat(front(r), part("IDAT", packed...), iend)
			d := New()
			l, got := d.Push(f)
			if got != e || len(l) != before {
				t.Error(before, last, got, len(l), "not", e)
			}
			if l, got := New().Push(f[:at+shows-1]); got != api.OK || len(l) > before {
				t.Error(before, last, "too early", got)
			}
			asSlow(t, f, at+shows-1, at+shows)
		}
	}
	if met[api.ErrSymbol] == 0 || met[api.ErrFilter] == 0 {
		t.Error(met)
	}
}

// Any text, of few bytes, so that many symbols stand in one byte: what is told, and what is wrong, is as the slow reading says.
func TestP16_1AnyText(t *testing.T) {
	rnd := rand.New(rand.NewSource(182))
	met := map[api.Errno]int{}
	for range 3000 {
		r := listedOf(1+rnd.Intn(4), 1+rnd.Intn(6))
		r.Head.Laced = rnd.Intn(2) == 0
		few := [][]byte{{0, 1}, {0, 1, 2, 4}, {0, 0, 0, 1, 1, 2, 9}, {0, 0, 0, 0, 0, 3}, {2, 2, 2, 2, 5}}[rnd.Intn(5)]
		limit := 0
		for _, l := range slowLines(r.Head) {
			limit += slowSize(r.Head, len(l.Spots))
		}
		b := make([]byte, limit+max(0, rnd.Intn(5)-2)-max(0, rnd.Intn(5)-3))
		for i := range b {
			b[i] = few[rnd.Intn(len(few))]
		}
		packed := pack(t, b, 1+rnd.Intn(3))
		if rnd.Intn(3) == 0 {
			packed[2+rnd.Intn(len(packed)-2)] ^= 1 << rnd.Intn(8)
		}
		f := slices.Concat(front(r), idats(packed, 1+rnd.Intn(len(packed))), iend)
		met[asSlow(t, f, by(f, 1+rnd.Intn(9))...).fault.e]++
	}
	for _, e := range []api.Errno{api.OK, api.ErrFilter, api.ErrIndex, api.ErrMissing, api.ErrLong, api.ErrSum, api.ErrCode, api.ErrFar, api.ErrSymbol, api.ErrStored, api.ErrForm} {
		if met[e] == 0 {
			t.Error("no file with", e)
		}
	}
}

// Lines that were told ahead of an error in the same push are told.
func TestP16_1LinesAheadOfAnError(t *testing.T) {
	r := grey(2, 3, 1, 2, 3, 4, 5, 6)
	b := text(t, r, inTurn)
	b[6] = 7
	f := withText(r, b)
	d := New()
	l, e := d.Push(f)
	if len(l) != 2 || e != api.ErrFilter || d.Told() != 2 || d.Done() {
		t.Fatal(l, e, d.Told())
	}
	for i, v := range []uint16{1, 2, 3, 4} {
		if got := l[i/2].Cols[i%2]; got != (api.Color{R: v * 257, G: v * 257, B: v * 257, A: 65535}) {
			t.Error(i, got)
		}
	}
	if h, ok := d.Head(); h != r.Head || !ok {
		t.Error(h, ok)
	}
}
