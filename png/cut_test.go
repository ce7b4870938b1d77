package png

import (
	"encoding/binary"
	"hash/crc32"
	"math/rand"
	"slices"
	"testing"

	"halftone/api"
)

// cases are files: right ones of each kind of colours, such as are cut off, and such as have an error.
func cases(t *testing.T) (list [][]byte) {
	rnd := rand.New(rand.NewSource(191))
	for _, k := range [][2]int{{0, 2}, {2, 8}, {3, 4}, {4, 16}, {6, 8}} {
		r := some(rnd, api.Head{W: 3, H: 3, Color: k[0], Depth: k[1], Laced: k[1] != 8})
		b := slices.Concat(front(r), part("tEXt", 1, 2), idats(pack(t, text(t, r, inTurn), 1), 20), part("IDAT"), part("tIME"), iend)
		list = append(list, b, b[:len(b)-3], b[:len(b)-20], append(slices.Clone(b), 0))
	}
	g, p := grey(2, 3, 1, 2, 3, 4, 5, 6), listedOf(2, 3, 0, 1, 2, 0, 1, 2)
	wrong := whole(t, g)
	wrong[len(wrong)-14] ^= 1
	return append(list,
		nil,
		eight[:3],
		[]byte("\x89PMG"),
		whole(t, g)[8:],
		wrong,
		withText(g, []byte{0, 1, 2, 5, 3, 4, 0, 5, 6}),
		withText(g, []byte{0, 1, 2, 1, 3, 4, 0, 5}),
		withText(g, []byte{0, 1, 2, 1, 3, 4, 0, 5, 6, 7}),
		withText(p, []byte{0, 1, 2, 1, 3, 4, 0, 5, 6}),
		append(front(p), iend...),
		file(ihdr(p.Head), part("IDAT", 1, 2, 3)),
		file(ihdr(g.Head), part("ABCD")),
		file(ihdr(g.Head), part("PLTE", 1, 2, 3)),
		file(ihdr(g.Head), part("IDAT", 120, 156, 7)),
		append(whole(t, g), whole(t, p)...),
	)
}

// Every file, in two parts, in three of which one may be empty, and in parts of each size: every push answers the same as if all had come at once.
func TestP16_2EveryCut(t *testing.T) {
	for _, b := range cases(t) {
		r := slow(b)
		asRead(t, b, r)
		for i := range len(b) + 1 {
			asRead(t, b, r, i)
			asRead(t, b, r, i, i)
			asRead(t, b, r, i, (i+len(b))/2)
			if i > 0 {
				asRead(t, b, r, by(b, i)...)
			}
		}
	}
}

// all is the lines that are told when a file is cut at these places, and the last answer.
func all(b []byte, cuts ...int) (l []api.Line, e api.Errno) {
	d := New()
	from := 0
	for _, to := range append(slices.Clone(cuts), len(b)) {
		var more []api.Line
		more, e = d.Push(b[from:to])
		l = append(l, more...)
		from = to
	}
	return l, e
}

// The same, without a slow reading: greater files, cut by chance.
func TestP16_2SameLines(t *testing.T) {
	rnd := rand.New(rand.NewSource(192))
	for i := range 60 {
		k := kinds[i%len(kinds)]
		r := some(rnd, api.Head{W: 1 + rnd.Intn(60), H: 1 + rnd.Intn(60), Color: k[0], Depth: k[1], Laced: rnd.Intn(2) == 0})
		packed := pack(t, text(t, r, inTurn), rnd.Intn(4))
		b := slices.Concat(front(r), idats(packed, 1+rnd.Intn(len(packed))), iend)
		if rnd.Intn(3) == 0 {
			b[len(front(r))+rnd.Intn(len(b)-len(front(r)))] ^= 1 << rnd.Intn(8)
		}
		want, wantE := all(b)
		for _, cuts := range [][]int{by(b, 1), by(b, 7), by(b, 1000), chance(rnd, b), chance(rnd, b)} {
			if l, e := all(b, cuts...); !slices.EqualFunc(l, want, sameLine) || e != wantE {
				t.Fatal(r.Head, len(l), e, "not", len(want), wantE)
			}
		}
	}
}

// chance is cuts of any kind, with parts of no bytes among them.
func chance(rnd *rand.Rand, b []byte) (cuts []int) {
	for range rnd.Intn(20) {
		cuts = append(cuts, rnd.Intn(len(b)+1))
	}
	slices.Sort(cuts)
	return cuts
}

// small is a small file by chance.
func small(t *testing.T, rnd *rand.Rand) []byte {
	k := kinds[rnd.Intn(len(kinds))]
	r := some(rnd, api.Head{W: 1 + rnd.Intn(4), H: 1 + rnd.Intn(4), Color: k[0], Depth: k[1], Laced: rnd.Intn(2) == 0})
	packed := pack(t, text(t, r, inTurn), rnd.Intn(4))
	return slices.Concat(front(r), idats(packed, 1+rnd.Intn(len(packed))), iend)
}

// Files of which bytes are other ones, left out, or put in.
func TestP16_2SpoiltFiles(t *testing.T) {
	rnd := rand.New(rand.NewSource(193))
	met := map[api.Errno]int{}
	for range 3000 {
		b := small(t, rnd)
		for range 1 + rnd.Intn(2) {
			at := rnd.Intn(len(b))
			switch rnd.Intn(4) {
			case 0:
				b[at] = byte(rnd.Intn(256))
			case 1:
				b[at] ^= 1 << rnd.Intn(8)
			case 2:
				b = slices.Delete(b, at, at+1)
			case 3:
				b = slices.Insert(b, at, byte(rnd.Intn(256)))
			}
		}
		met[asSlow(t, b, chance(rnd, b)...).fault.e]++
	}
	for _, e := range []api.Errno{api.ErrForm, api.ErrSum, api.ErrLong, api.ErrOrder} {
		if met[e] == 0 {
			t.Error("no file with", e)
		}
	}
}

// Every byte of a file turned: no picture comes of it but by a sum that is right nevertheless.
func TestP16_1EveryByteTurned(t *testing.T) {
	b := whole(t, listedOf(3, 2, 0, 1, 2, 2, 1, 0))
	for i := range b {
		for _, turn := range []byte{1, 32, 128, 255} {
			spoilt := slices.Clone(b)
			spoilt[i] ^= turn
			asSlow(t, spoilt, i, i+1)
			if _, e := Read(spoilt); e == api.OK {
				t.Error(i, turn)
			}
		}
	}
}

// Files whose chunks' data have other bytes, with sums that are right.
func TestP16_2SpoiltData(t *testing.T) {
	rnd := rand.New(rand.NewSource(194))
	met := map[api.Errno]int{}
	for range 4000 {
		list, _ := slowRow(small(t, rnd))
		parts := [][]byte{}
		at := rnd.Intn(len(list) - 1)
		for i, c := range list {
			data := slices.Clone(c.data)
			if i == at && len(data) > 0 {
				switch rnd.Intn(4) {
				case 0:
					data[rnd.Intn(len(data))] = byte(rnd.Intn(8))
				case 1:
					data[rnd.Intn(len(data))] ^= 1 << rnd.Intn(8)
				case 2:
					data = data[:rnd.Intn(len(data))]
				case 3:
					data = append(data, byte(rnd.Intn(256)))
				}
			}
			parts = append(parts, part(c.kind, data...))
		}
		b := file(parts...)
		met[asSlow(t, b, chance(rnd, b)...).fault.e]++
	}
	for _, e := range []api.Errno{api.OK, api.ErrHead, api.ErrPalette, api.ErrForm, api.ErrSum, api.ErrLong, api.ErrMissing, api.ErrTrail, api.ErrFilter, api.ErrIndex} {
		if met[e] == 0 {
			t.Error("no file with", e)
		}
	}
}

// Chunks that are left out, that are there twice, and in another order.
func TestP16_1SpoiltOrder(t *testing.T) {
	rnd := rand.New(rand.NewSource(195))
	met := map[api.Errno]int{}
	for range 4000 {
		list, _ := slowRow(small(t, rnd))
		parts := [][]byte{}
		for _, c := range list {
			parts = append(parts, part(c.kind, c.data...))
		}
		for range 1 + rnd.Intn(2) {
			i, j := rnd.Intn(len(parts)), rnd.Intn(len(parts))
			switch rnd.Intn(4) {
			case 0:
				parts = slices.Delete(parts, i, i+1)
			case 1:
				parts = slices.Insert(parts, i, parts[j])
			case 2:
				parts[i], parts[j] = parts[j], parts[i]
			case 3:
				other := []string{"tEXt", "TEXT", "PLTE", "tRNS", "IDAT", "IEND", "IHDR"}[rnd.Intn(7)]
				parts = slices.Insert(parts, i, part(other, make([]byte, rnd.Intn(4))...))
			}
			if len(parts) == 0 {
				break
			}
		}
		b := file(parts...)
		met[asSlow(t, b, chance(rnd, b)...).fault.e]++
	}
	for _, e := range []api.Errno{api.OK, api.ErrOrder, api.ErrPalette, api.ErrMissing, api.ErrTrail} {
		if met[e] == 0 {
			t.Error("no file with", e)
		}
	}
}

// Any bytes, behind the eight, and with sizes, kinds and sums that may be, and without.
func TestP16_1AnyBytes(t *testing.T) {
	rnd := rand.New(rand.NewSource(196))
	for range 3000 {
		b := []byte{}
		if rnd.Intn(8) > 0 {
			b = append(b, eight...)
		}
		for range rnd.Intn(5) {
			data := make([]byte, rnd.Intn(20))
			rnd.Read(data)
			kind := []string{"IHDR", "PLTE", "IDAT", "IEND", "tRNS", "tEXt", "TEXT", "no 1"}[rnd.Intn(8)]
			size := len(data)
			if rnd.Intn(8) == 0 {
				size = rnd.Intn(1 << 21)
			}
			from := len(b) + 4
			b = binary.BigEndian.AppendUint32(b, uint32(size))
			b = append(append(b, kind...), data...)
			b = binary.BigEndian.AppendUint32(b, crc32.ChecksumIEEE(b[from:]))
		}
		asSlow(t, b, chance(rnd, b)...)
	}
}
