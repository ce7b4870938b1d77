package gif

import (
	"encoding/binary"
	"math/bits"
	"math/rand"
	"slices"
	"testing"

	"halftone/api"
	rows "halftone/bits"
	"halftone/blocks"
	"halftone/lzw"
)

// made is how a file is made: its picture, and what a picture doesn't say.
type made struct {
	w, h    int
	laced   bool
	tints   []api.Tint
	samples []int
	clear   int // -1: none
	local   bool
	least   int
	late    int
	size    int    // of the blocks
	ahead   []byte // extensions ahead of the picture, behind the one that says what covers nothing
	behind  []byte // extensions behind it
}

// plain is a file of 4 colours with codes of 2 bits or more, all in one block, if there is room.
func plain(w, h int, samples ...int) made {
	return made{w: w, h: h, tints: tints(4), samples: samples, clear: -1, least: 2, size: 255}
}

// some is a file by chance, of n colours with codes of so many bits.
func some(rnd *rand.Rand, w, h, n, least int) made {
	m := made{w: w, h: h, tints: tints(n), clear: -1, least: least, size: 1 + rnd.Intn(255)}
	m.laced = rnd.Intn(2) == 0
	m.local = rnd.Intn(2) == 0
	m.late = rnd.Intn(3) * 100
	if rnd.Intn(3) > 0 {
		m.clear = rnd.Intn(2 * n % 257)
	}
	end := min(n, 1<<least)
	if rnd.Intn(2) == 0 {
		// Fewer, so that texts are longer.
		end = min(end, 2)
	}
	for range w * h {
		m.samples = append(m.samples, rnd.Intn(end))
	}
	return m
}

// raster is what the file is to be read as.
func (m made) raster() api.Raster {
	r := api.Raster{Head: m.head(), Tints: m.tints, Samples: m.samples}
	if m.clear >= 0 && m.clear < len(m.tints) {
		for range m.clear {
			r.Alpha = append(r.Alpha, 255)
		}
		r.Alpha = append(r.Alpha, 0)
	}
	return r
}

func (m made) head() api.Head { return api.Head{W: m.w, H: m.h, Color: 3, Depth: 8, Laced: m.laced} }

// front is the beginning.
func (m made) front() []byte {
	n := byte(bits.Len(uint(len(m.tints))) - 2)
	var marks, own byte
	var l, o []api.Tint
	if m.local {
		own, o = 128|n, m.tints
	} else {
		marks, l = 128|n, m.tints
	}
	if m.laced {
		own |= 64
	}
	b := top(m.w, m.h, marks, l)
	if m.clear >= 0 {
		b = append(b, covers(byte(m.clear))...)
	}
	return slices.Concat(b, m.ahead, place(0, 0, m.w, m.h, own, o, byte(m.least)))
}

// inOrder is the samples, line by line.
func (m made) inOrder() (b []byte) {
	for _, l := range slowLines(m.head()) {
		for _, s := range l.Spots {
			b = append(b, byte(m.samples[s.Y*m.w+s.X]))
		}
	}
	return b
}

// text is the codes.
func (m made) text(t *testing.T) []byte {
	t.Helper()
	b, e := lzw.Pack(m.inOrder(), m.least, m.late)
	if e != api.OK {
		t.Fatal(e)
	}
	return b
}

// file is the whole file.
func (m made) file(t *testing.T) []byte {
	t.Helper()
	return m.with(t, m.text(t))
}

// with is the file with any text in the picture's blocks.
func (m made) with(t *testing.T, text []byte) []byte {
	t.Helper()
	parts, e := blocks.Pack(text, m.size)
	if e != api.OK {
		t.Fatal(e)
	}
	return slices.Concat(m.front(), parts, m.behind, []byte{59})
}

// shows is how many bytes of the file show so many of the text.
func (m made) shows(n int) int { return len(m.front()) + n + (n+m.size-1)/m.size }

// codes is the bytes of codes, each in the width in which it is read; and of each code how many bytes show it.
func codes(least int, list ...int) (b []byte, shows []int) {
	w := rows.NewWriter()
	none := 1<<least + 2
	count, first := none, true
	for _, c := range list {
		w.Put(c, min(12, max(least+1, bits.Len(uint(count)))))
		shows = append(shows, (w.Len()+7)/8)
		switch {
		case c == 1<<least:
			count, first = none, true
		case first:
			first = false
		case count < 4096:
			count++
		}
	}
	return w.Out(), shows
}

// tints is n colours, of which no two are the same.
func tints(n int) (l []api.Tint) {
	for i := range n {
		l = append(l, api.Tint{R: byte(i), G: byte(255 - i), B: byte(i*7 + 1)})
	}
	return l
}

// colours is the bytes of a table.
func colours(l []api.Tint) (b []byte) {
	for _, c := range l {
		b = append(b, c.R, c.G, c.B)
	}
	return b
}

// top is what stands ahead of the extensions: the name, the seven bytes, a table.
func top(w, h int, marks byte, l []api.Tint) []byte {
	b := []byte("GIF89a")
	b = binary.LittleEndian.AppendUint16(b, uint16(w))
	b = binary.LittleEndian.AppendUint16(b, uint16(h))
	return append(append(b, marks, 0, 0), colours(l)...)
}

// place is the byte 44, the nine bytes, a table, and the least bits.
func place(left, top, w, h int, marks byte, l []api.Tint, least byte) []byte {
	b := []byte{44}
	for _, v := range []int{left, top, w, h} {
		b = binary.LittleEndian.AppendUint16(b, uint16(v))
	}
	return append(append(append(b, marks), colours(l)...), least)
}

// aside is an extension of these blocks.
func aside(label byte, parts ...[]byte) []byte {
	b := []byte{33, label}
	for _, p := range parts {
		b = append(append(b, byte(len(p))), p...)
	}
	return append(b, 0)
}

// covers is the extension that says that a colour covers nothing.
func covers(v byte) []byte { return aside(249, []byte{1, 0, 0, v}) }

// padded is an extension that has just so many bytes, of 5 at least.
func padded(label byte, n int) []byte {
	b := []byte{33, label}
	for n -= 3; n > 0; {
		part := min(n-1, 255)
		if n-1-part == 1 {
			part-- // else a byte would be left over
		}
		b = append(append(b, byte(part)), make([]byte, part)...)
		n -= 1 + part
	}
	return append(b, 0)
}
