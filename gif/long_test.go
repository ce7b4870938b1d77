package gif

import (
	"bytes"
	"slices"
	"testing"

	"halftone/api"
)

// isLong holds that a file has a byte too much: the one behind the most that there may be.
func isLong(t *testing.T, name string, b []byte, lines int) {
	t.Helper()
	for _, size := range []int{len(b), api.MaxFile, 1000} {
		d := New()
		told, seen := 0, 0
		for part := range slices.Chunk(b, size) {
			l, e := d.Push(part)
			told += len(l)
			seen += len(part)
			want := api.OK
			if seen > api.MaxFile {
				want = api.ErrLong
			}
			if e != want {
				t.Fatal(name, size, seen, e, "not", want)
			}
		}
		if told != lines || d.Told() != lines || d.Done() {
			t.Error(name, size, told, d.Told(), d.Done())
		}
	}
	if r, e := Read(b); !sameRaster(r, api.Raster{}) || e != api.ErrLong {
		t.Error(name, e)
	}
	if _, e := Read(b[:api.MaxFile]); e == api.ErrLong {
		t.Error(name, "too early")
	}
	if r := slow(b); r.fault.e != api.ErrLong || r.fault.at != api.MaxFile+1 || len(r.lines) != lines {
		t.Error(name, r.fault, len(r.lines))
	}
}

// Files of the most bytes that there may be, and of one more, with what makes them long at each place.
func TestP18_1LongFiles(t *testing.T) {
	short := len(plain(2, 2, 0, 1, 2, 3).file(t))
	clears := bytes.Repeat([]byte{0x24, 0x49, 0x92}, api.MaxFile/3) // the code 4 again and again
	for name, long := range map[string]func(n int) []byte{
		"ahead": func(n int) []byte {
			m := plain(2, 2, 0, 1, 2, 3)
			m.ahead = padded(255, n-short)
			return m.file(t)
		},
		"behind": func(n int) []byte {
			m := plain(2, 2, 0, 1, 2, 3)
			m.behind = padded(249, n-short)
			return m.file(t)
		},
		"both": func(n int) []byte {
			m := plain(2, 2, 0, 1, 2, 3)
			m.ahead, m.behind = padded(1, 500000), padded(1, n-short-500000)
			return m.file(t)
		},
	} {
		b := long(api.MaxFile)
		if len(b) != api.MaxFile {
			t.Fatal(name, len(b))
		}
		if r, e := Read(b); !sameRaster(r, plain(2, 2, 0, 1, 2, 3).raster()) || e != api.OK {
			t.Error(name, e)
		}
		// A byte behind the end is too much, though it is behind the end, too.
		isLong(t, name+", a byte behind", append(slices.Clone(b), 0), 2)
		isLong(t, name+", a file behind", append(slices.Clone(b), b...), 2)
		isLong(t, name+", an end too late", long(api.MaxFile+1), 2)
		lines := 2
		if name == "ahead" {
			lines = 0
		}
		isLong(t, name+", much too long", long(api.MaxFile+70000), lines)
	}
	m := plain(2, 2)
	isLong(t, "clears", m.with(t, append(clears, clears[:100]...)), 0)
}

// What is wrong with the last byte that there may be counts, and so does what is wrong ahead of it.
func TestP18_1WrongAheadOfTooLong(t *testing.T) {
	m := plain(2, 2, 0, 1, 2, 3)
	m.behind = padded(1, api.MaxFile-len(m.file(t)))
	b := append(m.file(t), 1, 2, 3)
	b[api.MaxFile-1] = 44
	if l, e := New().Push(b); e != api.ErrOrder || len(l) != 2 {
		t.Error(e, len(l))
	}
	b[api.MaxFile-1] = 60
	if l, e := New().Push(b); e != api.ErrForm || len(l) != 2 {
		t.Error(e, len(l))
	}
	b[0] = 0
	if l, e := New().Push(b); e != api.ErrForm || len(l) != 0 {
		t.Error(e, len(l))
	}
}

// Long files, byte by byte: of extensions that say nothing nothing is kept that would have to be read again.
func TestP18_2LongByteByByte(t *testing.T) {
	for name, parts := range map[string][]byte{
		"one":           padded(255, 1000000),
		"very many":     bytes.Repeat(aside(1), 300000),
		"with a cover":  bytes.Repeat(covers(2), 120000),
		"a wrong cover": padded(249, 1000000),
	} {
		m := plain(2, 2, 0, 1, 2, 3)
		m.tints, m.least = tints(256), 8
		m.ahead = parts
		b := m.file(t)
		if name == "with a cover" {
			m.clear = 2
		}
		d := New()
		var l []api.Line
		e := api.OK
		for i := range b {
			more, now := d.Push(b[i : i+1])
			l = append(l, more...)
			e = now
		}
		if name == "a wrong cover" {
			if e != api.ErrForm || len(l) != 0 {
				t.Error(name, e, len(l))
			}
			continue
		}
		if e != api.OK || !d.Done() {
			t.Fatal(name, e)
		}
		isPicture(t, l, m.raster())
	}
}

// What a decoder holds doesn't grow with what says nothing.
func TestP18_1NothingKept(t *testing.T) {
	m := plain(2, 2, 0, 1, 2, 3)
	for _, parts := range [][]byte{padded(255, 100000), padded(249, 100000), bytes.Repeat(covers(2), 10000), bytes.Repeat(aside(7), 10000)} {
		d := New()
		if _, e := d.Push(m.front()[:13+12]); e != api.OK {
			t.Fatal(e)
		}
		if _, e := d.Push(parts[:len(parts)-1]); e != api.OK {
			t.Fatal(e)
		}
		if n := len(d.kept) + len(d.aside.bytes); n > 100 {
			t.Error("so many bytes are held:", n)
		}
	}
}
