package adler

import (
	"bytes"
	"hash/adler32"
	"math"
	"math/rand"
	"slices"
	"testing"
)

// told is the sum as the chapter's words say it, brought below 65521 at the very end.
func told(b []byte) uint32 {
	s, t := uint64(1), uint64(0)
	for _, v := range b {
		s += uint64(v)
		t += s
	}
	return uint32(65536*(t%65521) + s%65521)
}

// behind is the sum of b behind that of any bytes: the number of these is not known, but what b adds to each half is.
func behind(sum uint32, b []byte) uint32 {
	s, t := uint64(sum%65536), uint64(sum/65536)
	for _, v := range b {
		s += uint64(v)
		t += s
	}
	return uint32(65536*(t%65521) + s%65521)
}

// below is a number with each half taken modulo 65521.
func below(sum uint32) uint32 {
	return 65536*(sum/65536%65521) + sum%65536%65521
}

func some(rnd *rand.Rand, n int) []byte {
	b := make([]byte, n)
	rnd.Read(b)
	return b
}

// numbers have halves at the edges, and some others; not all of them are sums.
func numbers(rnd *rand.Rand) []uint32 {
	halves := []uint32{0, 1, 2, 32767, 32768, 65519, 65520, 65521, 65522, 65534, 65535}
	var out []uint32
	for _, t := range halves {
		for _, s := range halves {
			out = append(out, 65536*t+s)
		}
	}
	for range 20 {
		out = append(out, rnd.Uint32())
	}
	return out
}

func TestP4_1Examples(t *testing.T) {
	a, b := []byte("Wiki"), []byte("pedia")
	if s := Of([]byte("Wikipedia")); s != 0x11e60398 {
		t.Errorf("%#x", s)
	}
	if s := Join(Of(a), Of(b), 5); s != 0x11e60398 {
		t.Errorf("%#x", s)
	}
	if s := More(Of(a), b); s != 0x11e60398 {
		t.Errorf("%#x", s)
	}
}

func TestP4_1NoBytes(t *testing.T) {
	if Of(nil) != 1 || Of([]byte{}) != 1 {
		t.Error(Of(nil), Of([]byte{}))
	}
	for _, s := range numbers(rand.New(rand.NewSource(41))) {
		if More(s, nil) != below(s) || More(s, []byte{}) != below(s) {
			t.Errorf("%#x: %#x, not %#x", s, More(s, nil), below(s))
		}
	}
}

func TestP4_1EveryLength(t *testing.T) {
	rnd := rand.New(rand.NewSource(42))
	for n := range 600 {
		b := some(rnd, n)
		if s := Of(b); s != told(b) || s != adler32.Checksum(b) {
			t.Errorf("%d bytes: %#x, not %#x", n, s, told(b))
		}
	}
}

// Long texts of one byte: around the lengths at which the halves go beyond 65521, 2^16, and 2^32.
func TestP4_1LongTexts(t *testing.T) {
	for _, v := range []byte{0, 1, 2, 0x7f, 0x80, 0xfe, 0xff} {
		all := bytes.Repeat([]byte{v}, 1<<20+1)
		for _, n := range []int{21, 22, 256, 257, 258, 359, 362, 363, 5551, 5552, 5553, 5554, 5803, 5804, 5805, 11104, 65519, 65520, 65521, 65522, 65535, 65536, 65537, 131042, 1 << 20, 1<<20 + 1} {
			b := all[:n]
			if s := Of(b); s != told(b) || s != adler32.Checksum(b) {
				t.Errorf("%d times %d: %#x, not %#x", n, v, s, told(b))
			}
		}
	}
}

func TestP4_1MoreOfAnyNumber(t *testing.T) {
	rnd := rand.New(rand.NewSource(43))
	long := bytes.Repeat([]byte{0xff}, 6000)
	for _, s := range numbers(rnd) {
		for _, b := range [][]byte{{0}, {1}, {0xff}, some(rnd, 2), some(rnd, 300), long} {
			if got := More(s, b); got != behind(s, b) || got != More(below(s), b) {
				t.Errorf("%#x and %d bytes: %#x, not %#x", s, len(b), got, behind(s, b))
			}
		}
	}
}

func TestP4_1Join(t *testing.T) {
	rnd := rand.New(rand.NewSource(44))
	for n := range 300 {
		b := some(rnd, n)
		sum := Of(b)
		for _, a := range numbers(rnd) {
			if got := Join(a, sum, n); got != behind(a, b) {
				t.Fatalf("%#x and %d bytes: %#x, not %#x", a, n, got, behind(a, b))
			}
		}
	}
}

// Of both sums each half is taken modulo 65521 first.
func TestP4_1JoinHalvesBeyond(t *testing.T) {
	rnd := rand.New(rand.NewSource(45))
	for _, a := range numbers(rnd) {
		for _, b := range numbers(rnd) {
			for _, n := range []int{-1, 0, 1, 2, 65520, 65521, 65522, math.MaxInt} {
				if got, want := Join(a, b, n), Join(below(a), below(b), n); got != want {
					t.Fatalf("%#x, %#x, %d: %#x, not %#x", a, b, n, got, want)
				}
			}
		}
	}
	// The sum of 65520 bytes 1 and a byte 0 has the lower half 0; a text of which that half is 65521 is the same one.
	b := append(bytes.Repeat([]byte{1}, 65520), 0)
	sum := Of(b)
	if sum%65536 != 0 {
		t.Fatalf("%#x", sum)
	}
	for _, a := range numbers(rnd) {
		if got := Join(a, sum+65521, len(b)); got != behind(a, b) {
			t.Errorf("%#x: %#x, not %#x", a, got, behind(a, b))
		}
	}
}

// Below 0 counts as 0: no bytes have the sum 1, and nothing is behind the first.
func TestP4_1JoinNoBytes(t *testing.T) {
	rnd := rand.New(rand.NewSource(46))
	for _, a := range numbers(rnd) {
		for _, n := range []int{math.MinInt, math.MinInt + 1, -65522, -65521, -65520, -2, -1, 0} {
			if got := Join(a, 1, n); got != below(a) {
				t.Errorf("%#x, %d: %#x", a, n, got)
			}
			b := rnd.Uint32()
			if got, want := Join(a, b, n), Join(a, b, 0); got != want {
				t.Errorf("%#x, %#x, %d: %#x, not %#x", a, b, n, got, want)
			}
		}
	}
}

func TestP4_1JoinOneByte(t *testing.T) {
	for _, a := range numbers(rand.New(rand.NewSource(47))) {
		for v := range 256 {
			b := []byte{byte(v)}
			if got := Join(a, Of(b), 1); got != behind(a, b) {
				t.Errorf("%#x, %d: %#x", a, v, got)
			}
		}
	}
}

// 65521 bytes more add nothing to a half, whatever they are added to: so the sum behind more bytes than could be summed is known.
func TestP4_1JoinVeryGreat(t *testing.T) {
	a, b := Of([]byte("Wiki")), Of([]byte("pedia"))
	for _, times := range []int{1, 2, 65521, 1 << 16, 1 << 32, 1 << 47, math.MaxInt/65521 - 1} {
		if s := Join(a, b, 65521*times+5); s != 0x11e60398 {
			t.Errorf("%d times: %#x", times, s)
		}
	}
	rnd := rand.New(rand.NewSource(48))
	for _, n := range []int{math.MaxInt, math.MaxInt - 1, 1 << 62, 1 << 48, 1 << 32, 1<<32 - 1, math.MaxInt32, 65521, 65520} {
		for _, a := range numbers(rnd) {
			b := rnd.Uint32()
			if got, want := Join(a, b, n), Join(a, b, n%65521); got != want {
				t.Errorf("%#x, %#x, %d: %#x, not %#x", a, b, n, got, want)
			}
		}
	}
}

func TestP4_1JoinLong(t *testing.T) {
	b := bytes.Repeat([]byte{0xff}, 1<<20)
	for _, at := range []int{0, 1, 65520, 65521, 65522, 1 << 19, 1<<20 - 1, 1 << 20} {
		if s := Join(Of(b[:at]), Of(b[at:]), len(b)-at); s != told(b) {
			t.Errorf("%d: %#x, not %#x", at, s, told(b))
		}
	}
}

func TestP4_1Is(t *testing.T) {
	for s, want := range map[uint32]bool{
		0:              true,
		1:              true,
		65520:          true,
		65521:          false,
		65535:          false,
		65536:          true,
		65520 << 16:    true,
		65521 << 16:    false,
		65520<<16 + 1:  true,
		0xfff0fff0:     true,
		0xfff0fff1:     false,
		0xfff1fff0:     false,
		0xfff1fff1:     false,
		math.MaxUint32: false,
	} {
		if Is(s) != want {
			t.Errorf("%#x: %t", s, Is(s))
		}
	}
	for half := range uint32(65536) {
		want := half < 65521
		if Is(half) != want || Is(half<<16) != want || Is(half<<16+half) != want {
			t.Fatal(half)
		}
	}
}

// What is handed in stays as it was, its spare room too, and is not kept.
func TestP4_1Memory(t *testing.T) {
	room := []byte("Wikipedia and spare room")
	was := slices.Clone(room)
	in := room[:9]
	if Of(in) != 0x11e60398 || More(1, in) != 0x11e60398 {
		t.Error(Of(in), More(1, in))
	}
	if !bytes.Equal(room, was) {
		t.Error("changed", room)
	}
	in[0] = 'w'
	if Of(in) != told(in) {
		t.Error("kept", Of(in))
	}
}

// However bytes are cut, they have one sum: every way to cut ten bytes.
func TestP4_2EveryCut(t *testing.T) {
	b := bytes.Repeat([]byte{0xff}, 10)
	b[3], b[7] = 0, 1
	for mask := range 1 << 9 {
		more, joined, from := uint32(1), uint32(1), 0
		for i := range 10 {
			if i < 9 && mask>>i&1 == 0 {
				continue
			}
			part := b[from : i+1]
			from = i + 1
			more = More(more, part)
			joined = Join(joined, Of(part), len(part))
		}
		if more != told(b) || joined != told(b) {
			t.Fatalf("%b: %#x, %#x, not %#x", mask, more, joined, told(b))
		}
	}
}

// Long texts and parts without bytes, too; and the parts may be joined from the end on.
func TestP4_2ManyParts(t *testing.T) {
	rnd := rand.New(rand.NewSource(49))
	for range 60 {
		b := some(rnd, rnd.Intn(30000))
		var parts [][]byte
		for from := 0; from < len(b); {
			n := min(rnd.Intn(2000)*rnd.Intn(2), len(b)-from)
			parts = append(parts, b[from:from+n])
			from += n
		}
		more, ahead, last, size := uint32(1), uint32(1), uint32(1), 0
		for i, p := range parts {
			more = More(more, p)
			ahead = Join(ahead, Of(p), len(p))
			p = parts[len(parts)-1-i]
			last = Join(Of(p), last, size)
			size += len(p)
		}
		if want := told(b); more != want || ahead != want || last != want {
			t.Fatalf("%d bytes: %#x, %#x, %#x, not %#x", len(b), more, ahead, last, want)
		}
	}
}

// What is answered is a sum, whatever number is handed in.
func TestP4_2IsASum(t *testing.T) {
	rnd := rand.New(rand.NewSource(410))
	for n := range 300 {
		if s := Of(some(rnd, n)); !Is(s) {
			t.Errorf("%#x", s)
		}
		if s := Of(bytes.Repeat([]byte{0xff}, 40*n)); !Is(s) {
			t.Errorf("%#x", s)
		}
	}
	for _, a := range numbers(rnd) {
		for n := range 10 {
			if s := More(a, some(rnd, n)); !Is(s) {
				t.Errorf("%#x: %#x", a, s)
			}
		}
		for _, b := range numbers(rnd) {
			for _, n := range []int{math.MinInt, 0, 1, 65520, math.MaxInt} {
				if s := Join(a, b, n); !Is(s) {
					t.Fatalf("%#x, %#x, %d: %#x", a, b, n, s)
				}
			}
		}
	}
}

// Texts that differ in one byte alone: at every place, every other byte.
func TestP4_3(t *testing.T) {
	rnd := rand.New(rand.NewSource(411))
	for n := range 60 {
		b := some(rnd, n)
		sum := Of(b)
		for i := range b {
			was := b[i]
			for v := range 256 {
				b[i] = byte(v)
				if (Of(b) == sum) != (byte(v) == was) {
					t.Fatalf("%d bytes, byte %d, %d for %d: %#x", n, i, v, was, sum)
				}
			}
			b[i] = was
		}
	}
}

// Long texts that differ in one byte: the higher halves may be the same, the lower ones not.
func TestP4_3LongTexts(t *testing.T) {
	b := bytes.Repeat([]byte{0xff}, 65521+10)
	sum := Of(b)
	for _, i := range []int{0, 9, 10, 11, 5552, 65520, 65521, 65530} {
		for v := range 255 {
			b[i] = byte(v)
			if Of(b) == sum {
				t.Errorf("byte %d, %d: %#x", i, v, sum)
			}
		}
		b[i] = 0xff
	}
}
