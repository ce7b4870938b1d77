package png

import (
	"encoding/binary"
	"slices"
	"testing"

	"halftone/api"
)

// refused holds that a file's fault is shown by just so many bytes of it, and that so many lines are told ahead of it.
func refused(t *testing.T, name string, b []byte, at int, e api.Errno, lines int) {
	t.Helper()
	d := New()
	l, got := d.Push(b[:at-1])
	if got != api.OK || len(l) != lines {
		t.Error(name, "too early:", got, len(l))
	}
	known, ok := d.Head()
	l, got = d.Push(b[at-1 : at])
	if got != e {
		t.Error(name, "at its byte:", got, "not", e)
	}
	lines += len(l)
	for range 3 {
		for _, more := range [][]byte{b[at:], nil, {137}, whole(t, grey(1, 1, 7))} {
			if l, got := d.Push(more); len(l) != 0 || got != e {
				t.Error(name, "behind it:", l, got)
			}
		}
		if h, still := d.Head(); h != known || still != ok || d.Done() || d.Told() != lines {
			t.Error(name, "behind it:", h, still, d.Done(), d.Told())
		}
	}
	if l, got := New().Push(b); len(l) != lines || got != e {
		t.Error(name, "all at once:", len(l), got)
	}
	if r, got := Read(b); !sameRaster(r, api.Raster{}) || got != e {
		t.Error(name, "Read:", got)
	}
	asSlow(t, b, at-1, at)
}

// accepted holds that there is nothing wrong with a file.
func accepted(t *testing.T, name string, b []byte) {
	t.Helper()
	if _, e := Read(b); e != api.OK {
		t.Error(name, e)
	}
	asSlow(t, b)
}

// A row of parts, and which of them has the kind that is wrong there.
type wrongKind struct {
	name  string
	parts [][]byte
	at    int
	e     api.Errno
	lines int
}

// shownBy is how many bytes of a file show the kind of one of its parts.
func shownBy(parts [][]byte, at int) int { return len(file(parts[:at]...)) + 8 }

func TestP16_1WhenAChunkBegins(t *testing.T) {
	g, p := grey(2, 2, 1, 2, 3, 4), listedOf(2, 2, 0, 1, 2, 0)
	h, hp := ihdr(g.Head), ihdr(p.Head)
	clear0, clear3 := part("tRNS", 0, 1), part("tRNS", 7)
	table := plte(p.Tints)
	packed := pack(t, text(t, g, always(0)), 0)
	data, data3 := part("IDAT", packed...), part("IDAT", pack(t, text(t, p, always(0)), 0)...)
	half := part("IDAT", packed[:12]...) // with the first line, and a bit of the second one
	some, great := part("tEXt", 1, 2), part("TEXT", 1, 2)
	none := part("IDAT")
	type list = [][]byte
	for _, c := range []wrongKind{
		{"first: PLTE", list{table, h, data, iend}, 0, api.ErrOrder, 0},
		{"first: IDAT", list{data, h, iend}, 0, api.ErrOrder, 0},
		{"first: IEND", list{iend}, 0, api.ErrOrder, 0},
		{"first: tRNS", list{clear0, h, data, iend}, 0, api.ErrOrder, 0},
		{"first: one that says nothing", list{some, h, data, iend}, 0, api.ErrOrder, 0},
		{"first: a great letter's", list{great, h, data, iend}, 0, api.ErrOrder, 0},
		{"a second IHDR", list{h, h, data, iend}, 1, api.ErrOrder, 0},
		{"a second IHDR further on", list{h, some, h, data, iend}, 2, api.ErrOrder, 0},
		{"a second IHDR behind IDAT", list{h, data, h, iend}, 2, api.ErrOrder, 2},
		{"a second IHDR behind half of the data", list{h, half, h, iend}, 2, api.ErrOrder, 1},
		{"a great letter's", list{h, great, data, iend}, 1, api.ErrOrder, 0},
		{"a great letter's behind IDAT", list{h, data, great, iend}, 2, api.ErrOrder, 2},
		{"a great letter's behind half of the data", list{h, half, great, iend}, 2, api.ErrOrder, 1},
		{"Idat", list{h, part("Idat"), data, iend}, 1, api.ErrOrder, 0},
		{"ZZZZ", list{h, part("ZZZZ"), data, iend}, 1, api.ErrOrder, 0},
		{"Aaaa", list{h, part("Aaaa"), data, iend}, 1, api.ErrOrder, 0},
		{"TRNS", list{h, part("TRNS", 0, 1), data, iend}, 1, api.ErrOrder, 0},
		{"a second PLTE", list{hp, table, table, data3, iend}, 2, api.ErrOrder, 0},
		{"a second PLTE behind tRNS", list{hp, table, clear3, table, data3, iend}, 3, api.ErrOrder, 0},
		{"PLTE behind IDAT", list{hp, table, data3, table, iend}, 3, api.ErrOrder, 2},
		{"PLTE behind IDAT, the first one", list{ihdr(api.Head{W: 1, H: 1, Color: 2, Depth: 8}), part("IDAT", pack(t, []byte{0, 1, 2, 3}, 0)...), table, iend}, 2, api.ErrOrder, 1},
		{"PLTE behind half of the data", list{h, half, table, iend}, 2, api.ErrOrder, 1},
		{"tRNS behind IDAT", list{h, data, clear0, iend}, 2, api.ErrOrder, 2},
		{"tRNS behind half of the data", list{h, half, clear0, iend}, 2, api.ErrOrder, 1},
		{"a second tRNS", list{h, clear0, clear0, data, iend}, 2, api.ErrOrder, 0},
		{"a second tRNS of kind 3", list{hp, table, clear3, some, clear3, data3, iend}, 4, api.ErrOrder, 0},
		{"tRNS of kind 3 ahead of PLTE", list{hp, clear3, table, data3, iend}, 1, api.ErrOrder, 0},
		{"tRNS of kind 3 without PLTE", list{hp, some, clear3, data3, iend}, 2, api.ErrOrder, 0},
		{"IDAT behind another chunk behind IDAT", list{h, data, some, data, iend}, 3, api.ErrOrder, 2},
		{"IDAT of nothing behind another chunk behind IDAT", list{h, data, some, some, none, iend}, 4, api.ErrOrder, 2},
		{"IEND without IDAT", list{h, iend}, 1, api.ErrOrder, 0},
		{"IEND of kind 3 without IDAT", list{hp, table, iend}, 2, api.ErrOrder, 0},
		{"IEND with a size", list{h, data, part("IEND", 0)}, 2, api.ErrOrder, 2},
		{"IEND with a size behind half of the data", list{h, half, part("IEND", 0)}, 2, api.ErrOrder, 1},
		{"IEND with a size without IDAT", list{h, part("IEND", 1, 2)}, 1, api.ErrOrder, 0},
		{"IDAT of kind 3 without PLTE", list{hp, data3, iend}, 1, api.ErrPalette, 0},
		{"IDAT of nothing, of kind 3, without PLTE", list{hp, some, none, table, data3, iend}, 2, api.ErrPalette, 0},
		{"IEND behind half of the data", list{h, half, iend}, 2, api.ErrMissing, 1},
		{"IEND behind an IDAT of nothing", list{h, none, iend}, 2, api.ErrMissing, 0},
		{"one that says nothing behind half of the data", list{h, half, some, data, iend}, 2, api.ErrMissing, 1},
		{"one that says nothing behind two parts of the data", list{h, half, part("IDAT", packed[12:len(packed)-1]...), some, part("IDAT", packed[len(packed)-1]), iend}, 3, api.ErrMissing, 2},
	} {
		refused(t, c.name, file(c.parts...), shownBy(c.parts, c.at), c.e, c.lines)
	}
	for i, parts := range []list{
		{h, data, iend},
		{h, clear0, data, iend},
		{h, some, clear0, some, data, some, iend},
		{hp, table, data3, iend},
		{hp, some, table, some, clear3, some, data3, some, some, iend},
		{h, half, none, part("IDAT", packed[12:]...), none, some, iend},
		{h, part("iEND", 1), part("tEXt"), part("tEXt"), part("zZZZ"), part("aaaa"), part("iHDR"), data, iend},
	} {
		b := file(parts...)
		if _, e := Read(b); e != api.OK {
			t.Error(i, e)
		}
		asSlow(t, b)
	}
}

// Of each kind with a great letter first, only four there are.
func TestP16_1EveryFirstLetter(t *testing.T) {
	r := grey(1, 1, 5)
	data := part("IDAT", pack(t, text(t, r, always(0)), 0)...)
	for c := byte('A'); c <= 'z'; c++ {
		if c > 'Z' && c < 'a' {
			continue
		}
		for _, rest := range []string{"XYZ", "xyz", "dat", "HDR", "END", "DAT", "LTE"} {
			kind := string(c) + rest
			switch kind {
			case "IHDR", "PLTE", "IDAT", "IEND":
				continue
			}
			parts := [][]byte{ihdr(r.Head), part(kind, 1), data, iend}
			if c >= 'a' {
				accepted(t, kind, file(parts...))
			} else {
				refused(t, kind, file(parts...), shownBy(parts, 1), api.ErrOrder, 0)
			}
		}
	}
}

func TestP16_1WhenAChunkEnds(t *testing.T) {
	data := part("IDAT", pack(t, []byte{0, 5}, 0)...)
	whole := ihdr(api.Head{W: 1, H: 1, Depth: 8})[8:21]
	headOf := func(at int, v byte) []byte {
		b := slices.Clone(whole)
		b[at] = v
		return part("IHDR", b...)
	}
	kind := func(color int) []byte { return ihdr(api.Head{W: 1, H: 1, Color: color, Depth: 8}) }
	ending := func(name string, e api.Errno, parts ...[]byte) {
		t.Helper()
		b := file(parts...)
		refused(t, name, slices.Concat(b, data, iend), len(b), e, 0)
	}
	ending("IHDR of nothing", api.ErrHead, part("IHDR"))
	ending("IHDR of 12 bytes", api.ErrHead, part("IHDR", whole[:12]...))
	ending("IHDR of 14 bytes", api.ErrHead, part("IHDR", append(slices.Clone(whole), 0)...))
	ending("IHDR of 13000 bytes", api.ErrHead, part("IHDR", slices.Repeat(whole, 1000)...))
	ending("no width", api.ErrHead, headOf(3, 0))
	ending("too wide", api.ErrHead, headOf(1, 1))
	ending("too high", api.ErrHead, headOf(6, 9))
	ending("a depth that there isn't", api.ErrHead, headOf(8, 3))
	ending("a kind that there isn't", api.ErrHead, headOf(9, 5))
	ending("a packing that there isn't", api.ErrHead, headOf(10, 1))
	ending("a row of filters that there isn't", api.ErrHead, headOf(11, 1))
	ending("laced in another way", api.ErrHead, headOf(12, 2))
	for _, color := range []int{0, 4} {
		ending("PLTE of greys", api.ErrPalette, kind(color), plte(tints(1)))
	}
	for _, color := range []int{2, 3, 6} {
		ending("PLTE of nothing", api.ErrPalette, kind(color), part("PLTE"))
		ending("PLTE of 2 bytes", api.ErrPalette, kind(color), part("PLTE", 1, 2))
		ending("PLTE of 769 bytes", api.ErrPalette, kind(color), part("PLTE", make([]byte, 769)...))
		ending("PLTE of 257 colours", api.ErrPalette, kind(color), plte(tints(257)))
		ending("PLTE of 3000 colours", api.ErrPalette, kind(color), plte(tints(3000)))
	}
	for _, depth := range []int{1, 2, 4} {
		h := ihdr(api.Head{W: 1, H: 1, Color: 3, Depth: depth})
		ending("PLTE of more than the depth has", api.ErrPalette, h, plte(tints(1<<depth+1)))
	}
	ending("tRNS of kind 4", api.ErrPalette, kind(4), part("tRNS", 0, 1))
	ending("tRNS of kind 6", api.ErrPalette, kind(6), part("tRNS", 0, 1, 0, 1, 0, 1))
	ending("tRNS of kind 0, of nothing", api.ErrPalette, kind(0), part("tRNS"))
	ending("tRNS of kind 0, of one byte", api.ErrPalette, kind(0), part("tRNS", 0))
	ending("tRNS of kind 0, of three", api.ErrPalette, kind(0), part("tRNS", 0, 1, 2))
	ending("tRNS of kind 0, too great", api.ErrPalette, kind(0), part("tRNS", 1, 0))
	ending("tRNS of kind 2, of one sample", api.ErrPalette, kind(2), part("tRNS", 0, 1))
	ending("tRNS of kind 2, too great", api.ErrPalette, kind(2), part("tRNS", 0, 1, 0, 1, 1, 1))
	ending("tRNS of kind 3, of nothing", api.ErrPalette, kind(3), plte(tints(3)), part("tRNS"))
	ending("tRNS of kind 3, of too much", api.ErrPalette, kind(3), plte(tints(3)), part("tRNS", 1, 2, 3, 4))
	ending("tRNS of kind 3, of far too much", api.ErrPalette, kind(3), plte(tints(3)), part("tRNS", make([]byte, 5000)...))
}

// A PLTE's own errors don't come ahead of its end, and a wrong sum comes ahead of them.
func TestP16_1WrongSums(t *testing.T) {
	g := grey(1, 2, 5, 6)
	data := part("IDAT", stored(text(t, g, always(0)), 100, false)...)
	wrong := func(b []byte) []byte {
		b = slices.Clone(b)
		b[len(b)-1] ^= 1
		return b
	}
	for _, c := range []struct {
		name  string
		parts [][]byte
		lines int
	}{
		{"IHDR", [][]byte{wrong(ihdr(g.Head))}, 0},
		{"IHDR that may not be", [][]byte{wrong(part("IHDR"))}, 0},
		{"PLTE that may not be", [][]byte{ihdr(g.Head), wrong(plte(tints(1)))}, 0},
		{"tRNS that may not be", [][]byte{ihdr(g.Head), wrong(part("tRNS"))}, 0},
		{"one that says nothing", [][]byte{ihdr(g.Head), wrong(part("tEXt", 1))}, 0},
		{"IDAT", [][]byte{ihdr(g.Head), wrong(data)}, 2},
		{"one that says nothing, behind IDAT", [][]byte{ihdr(g.Head), data, wrong(part("tEXt"))}, 2},
		{"IEND", [][]byte{ihdr(g.Head), data, wrong(iend)}, 2},
	} {
		b := file(c.parts...)
		refused(t, c.name, append(b, iend...), len(b), api.ErrSum, c.lines)
	}
}

// The errors of layer 11 beside a wrong sum.
func TestP16_1NoChunks(t *testing.T) {
	g := grey(1, 1, 5)
	for i := range eight {
		b := whole(t, g)
		b[i] ^= 32
		refused(t, "the eight", b, i+1, api.ErrForm, 0)
	}
	ahead := file(ihdr(g.Head))
	long := binary.BigEndian.AppendUint32(slices.Clone(ahead), api.MaxFile+1)
	refused(t, "too long a chunk", append(long, "tEXt...."...), len(long), api.ErrLong, 0)
	longest := binary.BigEndian.AppendUint32(slices.Clone(ahead), api.MaxFile)
	asSlow(t, append(longest, "tEXt...."...))
	none := part("ID4T", 1, 2, 3)
	refused(t, "no letter", slices.Concat(ahead, none, iend), len(ahead)+8, api.ErrForm, 0)
	// A great letter's kind that isn't four letters is no kind at all.
	refused(t, "no letters", slices.Concat(ahead, part("AB 4"), iend), len(ahead)+8, api.ErrForm, 0)
	refused(t, "no letters first", slices.Concat(eight, part("1234"), iend), 16, api.ErrForm, 0)
}

// Behind IEND no byte may stand, whatever it is the beginning of.
func TestP16_1BehindTheEnd(t *testing.T) {
	g := grey(1, 2, 5, 6)
	b := whole(t, g)
	for _, more := range [][]byte{{0}, {137}, {255, 255, 255, 255}, iend, part("tEXt"), part("tEXt", 1, 2), part("TEXT"), part("1234"), part("IDAT"), b, ihdr(g.Head), make([]byte, 5000)} {
		refused(t, "behind the end", append(slices.Clone(b), more...), len(b)+1, api.ErrTrail, 2)
	}
	d := New()
	if _, e := d.Push(b); e != api.OK || !d.Done() {
		t.Fatal(e)
	}
	for range 3 {
		if l, e := d.Push(nil); len(l) != 0 || e != api.OK || !d.Done() || d.Told() != 2 {
			t.Fatal(l, e, d.Done(), d.Told())
		}
	}
	if l, e := d.Push([]byte{0}); len(l) != 0 || e != api.ErrTrail || d.Done() || d.Told() != 2 {
		t.Fatal(l, e, d.Done(), d.Told())
	}
}

// filler is a chunk that says nothing and has so many bytes in all.
func filler(size int) []byte { return part("tEXt", make([]byte, size-12)...) }

// A file of MaxFile bytes may be; one more may not, whatever it is.
func TestP16_1FileTooLong(t *testing.T) {
	g := grey(1, 2, 5, 6)
	h := ihdr(g.Head)
	packed := stored(text(t, g, always(0)), 100, false)
	data := part("IDAT", packed...)
	room := api.MaxFile - len(file(h, data, iend))
	for _, f := range [][]byte{
		file(h, filler(room), data, iend),
		file(h, filler(room-1000), filler(1000), data, iend),
		file(h, data, filler(room), iend),
	} {
		if len(f) != api.MaxFile {
			t.Fatal(len(f))
		}
		if r, e := Read(f); !sameRaster(r, g) || e != api.OK {
			t.Error(r, e)
		}
		longAs(t, f)
		// Both would be wrong with that byte: that there is too much is named first.
		longAs(t, append(slices.Clone(f), 0))
		longAs(t, append(slices.Clone(f), iend...))
		if _, e := Read(append(f, 9)); e != api.ErrLong {
			t.Error(e)
		}
		// The byte ahead of it shows what is wrong earlier.
		if _, e := Read(append(file(h, data, iend), f...)); e != api.ErrTrail {
			t.Error(e)
		}
	}
	// Each byte of what stands at the limit may be the one that is too much.
	for _, behind := range [][]byte{slices.Concat(data, iend), slices.Concat(part("IDAT", 1, 2), iend), slices.Concat(h, iend), part("1234"), {255, 255, 255, 255}, iend} {
		for n := range len(behind) + 1 {
			ahead := len(file(h))
			f := append(file(h, filler(api.MaxFile-ahead-n)), behind...)
			longAs(t, f)
		}
	}
	// A chunk that goes on behind the limit.
	longAs(t, file(h, filler(api.MaxFile)))
	longAs(t, file(h, filler(api.MaxFile), data))
}

// longAs holds a long file against the slow reading: all at once, and cut near the limit.
func longAs(t *testing.T, b []byte) {
	t.Helper()
	r := slow(b)
	readAs(t, b, r)
	asRead(t, b, r)
	cuts := []int{8, len(b) / 2}
	for at := api.MaxFile - 100; at <= api.MaxFile+2; at++ {
		if at < len(b) {
			cuts = append(cuts, at)
		}
	}
	slices.Sort(cuts)
	asRead(t, b, r, cuts...)
}
