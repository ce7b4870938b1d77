package screen

import (
	"bytes"
	"encoding/binary"
	"slices"
	"testing"

	"halftone/api"
)

// fault is something that is wrong with a beginning: how many bytes show it.
type fault struct {
	at int
	e  api.Errno
}

// slowRead looks for everything that may be wrong, each thing by itself and as far as the bytes go, in the order in which the chapter names what one byte shows: s and n are there if nothing is, and the beginning is whole.
func slowRead(b []byte) (s api.Screen, n int, faults []fault) {
	for i, want := range []byte{71, 73, 70, 56, 57, 97} {
		if i < len(b) && b[i] != want {
			faults = append(faults, fault{i + 1, api.ErrForm})
		}
	}
	if len(b) < 13 {
		return s, 0, faults
	}
	s.W, s.H, s.Clear = word(b, 6), word(b, 8), -1
	if s.W < 1 || s.W > 2048 || s.H < 1 || s.H > 2048 || s.W*s.H > 65536 {
		faults = append(faults, fault{13, api.ErrHead})
	}
	tints, at := slowTable(b, 13, b[10])
	s.Tints = tints
	for at < len(b) && b[at] == 33 {
		sizes, data, behind := slowExtension(b, at)
		if behind > len(b) {
			return s, 0, faults
		}
		if b[at+1] == 249 {
			if !slices.Equal(sizes, []int{4}) {
				faults = append(faults, fault{behind, api.ErrForm})
			} else if s.Clear = -1; data[0]%2 == 1 {
				s.Clear = int(data[3])
			}
		}
		at = behind
	}
	switch {
	case at >= len(b):
		return s, 0, faults
	case b[at] == 59:
		return s, 0, append(faults, fault{at + 1, api.ErrMissing})
	case b[at] != 44:
		return s, 0, append(faults, fault{at + 1, api.ErrForm})
	case len(b) < at+10:
		return s, 0, faults
	}
	if word(b, at+1) != 0 || word(b, at+3) != 0 || word(b, at+5) != s.W || word(b, at+7) != s.H {
		faults = append(faults, fault{at + 10, api.ErrHead})
	}
	marks := b[at+9]
	if b[10] < 128 && marks < 128 {
		faults = append(faults, fault{at + 10, api.ErrPalette})
	}
	s.Laced = marks>>6&1 == 1
	own, at := slowTable(b, at+10, marks)
	if marks >= 128 {
		s.Local, s.Tints = true, own
	}
	if at >= len(b) {
		return s, 0, faults
	}
	s.Bits = int(b[at])
	if s.Bits < 2 || s.Bits > 8 {
		faults = append(faults, fault{at + 1, api.ErrForm})
	}
	return s, at + 1, faults
}

func word(b []byte, at int) int { return int(binary.LittleEndian.Uint16(b[at:])) }

// slowTable is the table at a place, if the marks say that there is one, and the place behind it; fewer colours, if it isn't all there.
func slowTable(b []byte, at int, marks byte) (l []api.Tint, behind int) {
	if marks < 128 {
		return nil, at
	}
	n := []int{2, 4, 8, 16, 32, 64, 128, 256}[marks%8]
	for i := at; i < at+3*n && i+3 <= len(b); i += 3 {
		l = append(l, api.Tint{R: b[i], G: b[i+1], B: b[i+2]})
	}
	return l, at + 3*n
}

// slowExtension is the sizes of an extension's blocks, their bytes, and the place behind them, which is behind all bytes if they don't end.
func slowExtension(b []byte, at int) (sizes []int, data []byte, behind int) {
	at += 2
	for at < len(b) {
		n := int(b[at])
		at++
		if n == 0 {
			return sizes, data, at
		}
		sizes = append(sizes, n)
		data = append(data, b[at:max(at, min(at+n, len(b)))]...)
		at += n
	}
	return sizes, data, len(b) + 1
}

// slow is what Read must answer.
func slow(b []byte) (api.Screen, int, api.Errno) {
	s, n, faults := slowRead(b)
	if len(faults) > 0 {
		first := faults[0]
		for _, f := range faults {
			if f.at < first.at {
				first = f
			}
		}
		return api.Screen{}, 0, first.e
	}
	if n == 0 {
		return api.Screen{}, 0, api.ErrShort
	}
	return s, n, api.OK
}

// same holds two screens against each other.
func same(a, b api.Screen) bool {
	return a.W == b.W && a.H == b.H && slices.Equal(a.Tints, b.Tints) && a.Local == b.Local && a.Clear == b.Clear && a.Laced == b.Laced && a.Bits == b.Bits
}

// asSlow holds Read against the slow reading, which it answers.
func asSlow(t *testing.T, b []byte) api.Errno {
	t.Helper()
	s, n, e := Read(b)
	want, wantN, wantE := slow(b)
	if !same(s, want) || n != wantN || e != wantE {
		t.Fatal(s, n, e, "not", want, wantN, wantE, b[:min(len(b), 200)])
	}
	return e
}

// cuts holds Read of each beginning of b against the slow reading.
func cuts(t *testing.T, b []byte) {
	t.Helper()
	for n := range len(b) + 1 {
		asSlow(t, b[:n])
	}
}

// isRead holds that b is a beginning of just that screen, whatever stands behind it, and that each of its own beginnings is short.
func isRead(t *testing.T, b []byte, want api.Screen) {
	t.Helper()
	for _, behind := range [][]byte{nil, {0}, {59}, {33, 249, 4, 1, 0, 0, 9, 0}, {44, 0, 0}, bytes.Repeat([]byte{255}, 300), b} {
		s, n, e := Read(slices.Concat(b, behind))
		if !same(s, want) || n != len(b) || e != api.OK {
			t.Fatal(s, n, e, "not", want, len(b), "with", behind[:min(len(behind), 9)], "behind")
		}
	}
	for n := range b {
		if s, got, e := Read(b[:n]); !same(s, api.Screen{}) || got != 0 || e != api.ErrShort {
			t.Fatal("the first", n, s, got, e)
		}
	}
	cuts(t, b)
}

// isWrong holds that so many bytes of b show an error, and fewer none.
func isWrong(t *testing.T, what string, b []byte, at int, e api.Errno) {
	t.Helper()
	for n := range len(b) + 1 {
		want := e
		if n < at {
			want = api.ErrShort
		}
		if s, got, gotE := Read(b[:n]); !same(s, api.Screen{}) || got != 0 || gotE != want {
			t.Fatal(what, "the first", n, s, got, gotE, "not", want)
		}
	}
	cuts(t, b)
}

// tints is n colours, of which no two are the same.
func tints(n int) (l []api.Tint) {
	for i := range n {
		l = append(l, api.Tint{R: byte(i), G: byte(255 - i), B: byte(i*7 + 1)})
	}
	return l
}

// colours is the bytes of a table.
func colours(l []api.Tint) (b []byte) {
	for _, c := range l {
		b = append(b, c.R, c.G, c.B)
	}
	return b
}

// top is what stands ahead of the extensions: the name, the seven bytes, a table.
func top(w, h int, marks byte, l []api.Tint) []byte {
	b := []byte("GIF89a")
	b = binary.LittleEndian.AppendUint16(b, uint16(w))
	b = binary.LittleEndian.AppendUint16(b, uint16(h))
	return append(append(b, marks, 0, 0), colours(l)...)
}

// place is the byte 44, the nine bytes, a table, and the least bits.
func place(left, top, w, h int, marks byte, l []api.Tint, least byte) []byte {
	b := []byte{44}
	for _, v := range []int{left, top, w, h} {
		b = binary.LittleEndian.AppendUint16(b, uint16(v))
	}
	return append(append(append(b, marks), colours(l)...), least)
}

// aside is an extension of these blocks.
func aside(label byte, parts ...[]byte) []byte {
	b := []byte{33, label}
	for _, p := range parts {
		b = append(append(b, byte(len(p))), p...)
	}
	return append(b, 0)
}

// covers is the extension that says that a colour covers nothing.
func covers(v byte) []byte { return aside(249, []byte{1, 0, 0, v}) }

// small is the parts of a short beginning, of 3 by 2 pixels, with a table of two colours.
func small() (ahead, behind []byte) {
	return top(3, 2, 128, tints(2)), place(0, 0, 3, 2, 0, nil, 2)
}

// smallScreen is what these parts say.
func smallScreen() api.Screen {
	return api.Screen{W: 3, H: 2, Tints: tints(2), Clear: -1, Bits: 2}
}
