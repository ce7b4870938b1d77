package segment

import (
	"bytes"
	"hash/crc32"
	"math/rand"
	"slices"
	"testing"

	"halftone/api"
)

// every is the kinds that there are.
var every = []int{1, 2, 3, 4, 5}

// must is an answer that may not be an error.
func must[T any](v T, e api.Errno) T {
	if e != api.OK {
		panic(e)
	}
	return v
}

// some is n bytes.
func some(rnd *rand.Rand, n int) []byte {
	b := make([]byte, n)
	rnd.Read(b)
	return b
}

// sealed is a text with its sum behind it, by the library.
func sealed(text []byte) []byte {
	s := crc32.ChecksumIEEE(text)
	return append(slices.Clone(text), byte(s), byte(s>>8), byte(s>>16), byte(s>>24))
}

// plain is a message of a kind, with each field of it well within its bounds.
func plain(kind int) api.Msg {
	m := api.Msg{Kind: kind, Boot: 0x01020304}
	switch kind {
	case 1:
		m.File, m.Sum, m.At = 5, 0x06070809, 0x0a0b0c
	case 2:
		m.File, m.Sum, m.Size, m.At, m.Body = 5, 0x06070809, 0x0d0e0f, 0x0a0b0c, 0x0310
	case 3:
		m.Index, m.Pass, m.Data = 0x11121314, 7, []byte{21, 22, 23}
	case 4:
		m.Index, m.Ranges = 0x11121314, [][2]int{{0x11121316, 0x11121318}, {0x2a2b2c2d, 0x3a3b3c3d}}
	case 5:
		m.File, m.Code = 5, 200
	}
	return m
}

// edged is a number of 0 to most, often one at its bounds.
func edged(rnd *rand.Rand, most int) int {
	switch rnd.Intn(5) {
	case 0:
		return 0
	case 1:
		return most
	default:
		return rnd.Intn(most + 1)
	}
}

// random is a message of a kind that may be.
func random(rnd *rand.Rand, kind int) api.Msg {
	m := api.Msg{Kind: kind, Boot: uint32(edged(rnd, 1<<32-1))}
	switch kind {
	case 1:
		m.File, m.Sum, m.At = edged(rnd, 15), uint32(edged(rnd, 1<<32-1)), edged(rnd, 1<<20)
	case 2:
		m.File, m.Sum, m.Size, m.Body = edged(rnd, 15), uint32(edged(rnd, 1<<32-1)), 1+edged(rnd, 1<<20-1), 1+edged(rnd, 1023)
		m.At = edged(rnd, m.Size)
	case 3:
		m.Index, m.Pass, m.Data = edged(rnd, 1<<31-1), edged(rnd, 8), some(rnd, 1+edged(rnd, 1023))
	case 4:
		m.Index = edged(rnd, 1<<31-1)
		m.Ranges = ranges(rnd, m.Index)
	case 5:
		m.File, m.Code = edged(rnd, 15), edged(rnd, 255)
	}
	return m
}

// ranges are some above index, as many as may be and have room, side by side or far apart.
func ranges(rnd *rand.Rand, index int) (list [][2]int) {
	far := []int{1, 4, 1 << 20, 1 << 31}[rnd.Intn(4)]
	for range rnd.Intn(5) {
		a := index + 1 + rnd.Intn(far)
		b := a + 1 + rnd.Intn(far)
		if b > 1<<31-1 {
			break
		}
		list = append(list, [2]int{a, b})
		index = b
	}
	return list
}

// equal asks whether two messages are the same.
func equal(a, b api.Msg) bool {
	return a.Kind == b.Kind && a.Boot == b.Boot && a.File == b.File && a.Sum == b.Sum && a.Size == b.Size && a.At == b.At &&
		a.Body == b.Body && a.Index == b.Index && a.Pass == b.Pass && a.Code == b.Code &&
		slices.Equal(a.Ranges, b.Ranges) && bytes.Equal(a.Data, b.Data)
}

// writes holds that a message has these bytes, and that these are read as it.
func writes(t *testing.T, m api.Msg, want []byte) {
	t.Helper()
	b, e := Write(m)
	if e != api.OK || !bytes.Equal(b, want) {
		t.Fatal(m, "is written as", b, e, "not", want)
	}
	reads(t, want, m)
}

// reads holds that bytes are read as a message.
func reads(t *testing.T, b []byte, want api.Msg) {
	t.Helper()
	if m, e := Read(b); e != api.OK || !equal(m, want) {
		t.Fatal(b, "are read as", m, e, "not", want)
	}
}

// mayNot holds that a message may not be.
func mayNot(t *testing.T, m api.Msg) {
	t.Helper()
	if b, e := Write(m); e != api.ErrArg || len(b) != 0 {
		t.Fatal(m, "is written as", b, e)
	}
}

// isRefused holds with which error bytes are read.
func isRefused(t *testing.T, b []byte, want api.Errno) {
	t.Helper()
	if m, e := Read(b); e != want || !equal(m, api.Msg{}) {
		t.Fatal(b, "are read as", m, e, "not", want)
	}
}
