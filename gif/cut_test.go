package gif

import (
	"math/rand"
	"slices"
	"testing"

	"halftone/api"
)

// cases are files: right ones of several kinds, such as are cut off, and such as have an error.
func cases(t *testing.T) (list [][]byte) {
	rnd := rand.New(rand.NewSource(211))
	for i := range 6 {
		m := some(rnd, 3, 5, 4<<(i%3), 3)
		m.laced, m.local = i%2 == 0, i%3 == 0
		m.size = 1 + 3*i
		m.ahead = slices.Concat(aside(254, []byte{33, 44, 59}, []byte{1}), covers(byte(i)))
		m.behind = slices.Concat(aside(249), aside(1, []byte{59, 59}))
		b := m.file(t)
		list = append(list, b, b[:len(b)-1], b[:len(b)-9], b[:20], append(slices.Clone(b), 0))
	}
	m := plain(2, 3, 1, 1, 1, 1, 1, 1)
	for _, codesOf := range [][]int{
		{4, 1, 1, 1, 1, 1, 1, 1, 5},
		{4, 1, 1, 1, 1, 1, 5},
		{4, 1, 1, 1, 7},
		{4, 1, 6, 7, 5, 0, 0, 0, 0},
		{4, 1, 6, 7, 4},
		{6},
		{},
	} {
		text, _ := codes(2, codesOf...)
		m.size = 1 + rnd.Intn(3)
		list = append(list, m.with(t, text))
	}
	m.tints = tints(2)
	text, _ := codes(2, 4, 1, 1, 1, 2, 1, 1, 5)
	list = append(list, m.with(t, text))
	right := plain(2, 2, 0, 1, 2, 3)
	b := right.file(t)
	other := slices.Clone(b)
	other[len(other)-1] = 44
	form := slices.Clone(b)
	form[len(form)-1] = 45
	right.ahead = aside(249, []byte{1, 2, 3})
	return append(list,
		nil,
		[]byte("GIF"),
		[]byte("GIF87a"),
		[]byte("GIF89a\x00\x00\x01\x00\x00\x00\x00"),
		other,
		form,
		right.file(t),
		slices.Concat(top(2, 2, 0, nil), place(0, 0, 2, 2, 0, nil, 2)),
		slices.Concat(top(2, 2, 0, nil), []byte{59}),
		append(slices.Clone(b), b...),
	)
}

// Every file, in two parts, in three of which one may be empty, and in parts of each size: every push answers the same as if all had come at once.
func TestP18_2EveryCut(t *testing.T) {
	for _, b := range cases(t) {
		r := slow(b)
		readAs(t, b, r)
		asRead(t, b, r)
		for i := range len(b) + 1 {
			asRead(t, b, r, i)
			asRead(t, b, r, i, i)
			asRead(t, b, r, i, (i+len(b))/2)
			if i > 0 {
				asRead(t, b, r, by(b, i)...)
			}
		}
	}
}

// all is the lines that are told when a file is cut at these places, and the last answer.
func all(b []byte, cuts ...int) (l []api.Line, e api.Errno) {
	d := New()
	from := 0
	for _, to := range append(slices.Clone(cuts), len(b)) {
		var more []api.Line
		more, e = d.Push(b[from:to])
		l = append(l, more...)
		from = to
	}
	return l, e
}

// The same, without a slow reading: greater files, cut by chance.
func TestP18_2SameLines(t *testing.T) {
	rnd := rand.New(rand.NewSource(212))
	for i := range 60 {
		m := some(rnd, 1+rnd.Intn(60), 1+rnd.Intn(60), 2<<(i%8), 2+rnd.Intn(7))
		b := m.file(t)
		if rnd.Intn(3) == 0 {
			n := len(m.front())
			b[n+rnd.Intn(len(b)-n)] ^= 1 << rnd.Intn(8)
		}
		want, wantE := all(b)
		for _, cuts := range [][]int{by(b, 1), by(b, 7), by(b, 1000), chance(rnd, b), chance(rnd, b)} {
			if l, e := all(b, cuts...); !slices.EqualFunc(l, want, sameLine) || e != wantE {
				t.Fatal(m.head(), len(l), e, "not", len(want), wantE)
			}
		}
	}
}

// chance is cuts of any kind, with parts of no bytes among them.
func chance(rnd *rand.Rand, b []byte) (cuts []int) {
	for range rnd.Intn(20) {
		cuts = append(cuts, rnd.Intn(len(b)+1))
	}
	slices.Sort(cuts)
	return cuts
}

// small is a small file by chance.
func small(t *testing.T, rnd *rand.Rand) []byte {
	m := some(rnd, 1+rnd.Intn(4), 1+rnd.Intn(6), 2<<rnd.Intn(4), 2+rnd.Intn(3))
	m.size = 1 + rnd.Intn(8)
	for range rnd.Intn(3) {
		m.ahead = append(m.ahead, [][]byte{covers(1), aside(249, []byte{0, 0, 0, 1}), aside(254, []byte{1, 2}), aside(1)}[rnd.Intn(4)]...)
		m.behind = append(m.behind, [][]byte{covers(1), aside(249), aside(254, []byte{1, 2})}[rnd.Intn(3)]...)
	}
	return m.file(t)
}

// Files of which bytes are other ones, left out, or put in.
func TestP18_2SpoiltFiles(t *testing.T) {
	rnd := rand.New(rand.NewSource(213))
	met := map[api.Errno]int{}
	for range 8000 {
		b := small(t, rnd)
		for range 1 + rnd.Intn(2) {
			at := rnd.Intn(len(b))
			switch rnd.Intn(4) {
			case 0:
				b[at] = []byte{0, 1, 2, 33, 44, 59, 249, byte(rnd.Intn(256))}[rnd.Intn(8)]
			case 1:
				b[at] ^= 1 << rnd.Intn(8)
			case 2:
				b = slices.Delete(b, at, at+1)
			case 3:
				b = slices.Insert(b, at, []byte{0, 1, 2, 33, 44, 59, 249, byte(rnd.Intn(256))}[rnd.Intn(8)])
			}
		}
		met[asSlow(t, b, chance(rnd, b)...).fault.e]++
	}
	for _, e := range []api.Errno{api.OK, api.ErrForm, api.ErrHead, api.ErrPalette, api.ErrMissing, api.ErrSymbol, api.ErrLong, api.ErrIndex, api.ErrOrder, api.ErrTrail} {
		if met[e] == 0 {
			t.Error("no file with", e)
		}
	}
}

// Every byte of a file changed: it is read as the slow reading says, or refused where that refuses it.
func TestP18_1EveryByteChanged(t *testing.T) {
	m := plain(3, 3, 0, 1, 2, 3, 2, 1, 0, 1, 2)
	m.clear = 1
	m.ahead, m.behind = aside(254, []byte{7}), aside(249)
	for _, local := range []bool{false, true} {
		m.local = local
		b := m.file(t)
		for i := range b {
			for v := range 256 {
				spoilt := slices.Clone(b)
				spoilt[i] = byte(v)
				if v%16 == 0 {
					asSlow(t, spoilt, i, i+1)
					continue
				}
				r := slow(spoilt)
				readAs(t, spoilt, r)
				asRead(t, spoilt, r, i)
			}
		}
	}
}

// Any bytes, alone and behind a beginning, few of them and all.
func TestP18_1AnyBytes(t *testing.T) {
	rnd := rand.New(rand.NewSource(214))
	few := []byte{0, 0, 1, 2, 3, 4, 33, 33, 44, 59, 249}
	for range 6000 {
		b := make([]byte, rnd.Intn(40))
		for i := range b {
			b[i] = byte(rnd.Intn(256))
			if rnd.Intn(2) == 0 {
				b[i] = few[rnd.Intn(len(few))]
			}
		}
		switch rnd.Intn(4) {
		case 0:
			b = append([]byte("GIF89a"), b...)
		case 1:
			b = append(top(2, 2, 128, tints(2)), b...)
		case 2:
			b = append(plain(2, 2).front(), b...)
		}
		asSlow(t, b, chance(rnd, b)...)
	}
}
