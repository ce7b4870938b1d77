package crc

import (
	"bytes"
	"hash/crc32"
	"math"
	"math/rand"
	"slices"
	"testing"
)

// period is how many steps of a bit bring every sum back to itself; as it is odd, so do just as many bytes.
const period = 1<<32 - 1

// told is the sum as the chapter's words say it, by division alone.
func told(b []byte) uint32 {
	x := uint64(1<<32 - 1)
	for _, v := range b {
		x ^= uint64(v)
		for range 8 {
			odd := x%2 == 1
			x /= 2
			if odd {
				x ^= 0xedb88320
			}
		}
	}
	return uint32(1<<32 - 1 - x)
}

func some(rnd *rand.Rand, n int) []byte {
	b := make([]byte, n)
	rnd.Read(b)
	return b
}

// sums are numbers at the edges, and some others.
func sums(rnd *rand.Rand) []uint32 {
	return []uint32{0, 1, 0x7fffffff, 0x80000000, 0xedb88320, 0xffffffff, rnd.Uint32(), rnd.Uint32()}
}

func TestP3_1Examples(t *testing.T) {
	a, b := []byte("1234"), []byte("56789")
	if s := Of([]byte("123456789")); s != 0xcbf43926 {
		t.Errorf("%#x", s)
	}
	if s := Join(Of(a), Of(b), 5); s != 0xcbf43926 {
		t.Errorf("%#x", s)
	}
	if s := More(Of(a), b); s != 0xcbf43926 {
		t.Errorf("%#x", s)
	}
}

func TestP3_1NoBytes(t *testing.T) {
	for name, s := range map[string]uint32{
		"no parts":            Of(),
		"a nil part":          Of(nil),
		"an empty part":       Of([]byte{}),
		"parts without bytes": Of(nil, []byte{}, nil),
		"a nil list":          Of([][]byte(nil)...),
		"an empty list":       Of([][]byte{}...),
	} {
		if s != 0 {
			t.Errorf("%s: %#x", name, s)
		}
	}
	for _, s := range sums(rand.New(rand.NewSource(31))) {
		if More(s, nil) != s || More(s, []byte{}) != s {
			t.Errorf("%#x: %#x", s, More(s, nil))
		}
	}
}

func TestP3_1EveryByte(t *testing.T) {
	for v := range 256 {
		b := []byte{byte(v)}
		if s := Of(b); s != told(b) || s != crc32.ChecksumIEEE(b) {
			t.Errorf("%d: %#x", v, s)
		}
	}
}

func TestP3_1EveryLength(t *testing.T) {
	rnd := rand.New(rand.NewSource(32))
	for n := range 400 {
		b := some(rnd, n)
		if s := Of(b); s != told(b) || s != crc32.ChecksumIEEE(b) {
			t.Errorf("%d bytes: %#x", n, s)
		}
	}
}

func TestP3_1LongTexts(t *testing.T) {
	for _, v := range []byte{0, 1, 0x80, 0xff} {
		b := bytes.Repeat([]byte{v}, 1<<20+3)
		want := crc32.ChecksumIEEE(b)
		if s := Of(b); s != want {
			t.Errorf("%d: %#x", v, s)
		}
		one := Of(b[:1<<10])
		for n := 1 << 10; n < 1<<20; n *= 2 {
			one = Join(one, one, n)
		}
		if s := Join(one, Of(b[:3]), 3); s != want {
			t.Errorf("%d, joined: %#x", v, s)
		}
	}
}

// Any number is the sum of some bytes, so More goes on behind any.
func TestP3_1MoreOfAnyNumber(t *testing.T) {
	rnd := rand.New(rand.NewSource(33))
	for _, s := range sums(rnd) {
		for n := range 20 {
			b := some(rnd, n)
			if got, want := More(s, b), crc32.Update(s, crc32.IEEETable, b); got != want {
				t.Errorf("%#x and %v: %#x, not %#x", s, b, got, want)
			}
		}
	}
}

func TestP3_1Join(t *testing.T) {
	rnd := rand.New(rand.NewSource(34))
	for n := range 70 {
		b := some(rnd, n)
		for _, a := range sums(rnd) {
			want := crc32.Update(a, crc32.IEEETable, b)
			if got := Join(a, Of(b), n); got != want {
				t.Errorf("%#x and %v: %#x, not %#x", a, b, got, want)
			}
		}
	}
}

// Below 0 counts as 0: so many bytes have the sum 0, and nothing is behind the first.
func TestP3_1JoinNoBytes(t *testing.T) {
	for _, a := range sums(rand.New(rand.NewSource(35))) {
		for _, n := range []int{math.MinInt, math.MinInt + 1, -period, -8, -2, -1, 0} {
			if got := Join(a, 0, n); got != a {
				t.Errorf("%#x, %d: %#x", a, n, got)
			}
			for _, b := range []uint32{1, 0x80000000, 0xffffffff} {
				if got, want := Join(a, b, n), Join(a, b, 0); got != want {
					t.Errorf("%#x, %#x, %d: %#x, not %#x", a, b, n, got, want)
				}
			}
		}
	}
}

func TestP3_1JoinOneByte(t *testing.T) {
	for _, a := range sums(rand.New(rand.NewSource(36))) {
		for v := range 256 {
			b := []byte{byte(v)}
			if got := Join(a, Of(b), 1); got != More(a, b) {
				t.Errorf("%#x, %d: %#x", a, v, got)
			}
		}
	}
}

// How far n bytes move a sum comes again with every period: so the sum behind more bytes than could be summed is known.
func TestP3_1JoinVeryGreat(t *testing.T) {
	a, b := Of([]byte("1234")), Of([]byte("56789"))
	for _, n := range []int{period + 5, 2*period + 5, 1<<20*period + 5, 1<<30*period + 5, (math.MaxInt/period-1)*period + 5} {
		if s := Join(a, b, n); s != 0xcbf43926 {
			t.Errorf("%d: %#x", n, s)
		}
	}
	rnd := rand.New(rand.NewSource(37))
	for _, n := range []int{math.MaxInt, math.MaxInt - 1, 1 << 62, 1 << 61, 1 << 32, period, period - 1, math.MaxInt32} {
		for _, a := range sums(rnd) {
			b := rnd.Uint32()
			if got, want := Join(a, b, n), Join(a, b, n%period); got != want {
				t.Errorf("%#x, %#x, %d: %#x, not %#x", a, b, n, got, want)
			}
			back := Join(Join(a, 0, n), 0, period-n%period)
			if back != a {
				t.Errorf("%#x, %d, and back: %#x", a, n, back)
			}
		}
	}
}

// Three texts have one sum, whichever two are joined first, great ones too.
func TestP3_1JoinThree(t *testing.T) {
	rnd := rand.New(rand.NewSource(38))
	for range 300 {
		a, b, c := rnd.Uint32(), rnd.Uint32(), rnd.Uint32()
		m, n := rnd.Int()>>(1+rnd.Intn(62)), rnd.Int()>>(1+rnd.Intn(62))
		left, right := Join(Join(a, b, m), c, n), Join(a, Join(b, c, n), m+n)
		if left != right {
			t.Errorf("%#x, %#x, %#x, %d, %d: %#x and %#x", a, b, c, m, n, left, right)
		}
	}
}

// What is handed in stays as it was, its spare room too, and is not kept.
func TestP3_1Memory(t *testing.T) {
	room := []byte("123456789 and spare room")
	was := slices.Clone(room)
	in := room[:9]
	parts := [][]byte{in[:4], in[4:], nil}
	if Of(in) != 0xcbf43926 || Of(parts...) != 0xcbf43926 || More(0, in) != 0xcbf43926 {
		t.Error(Of(in), Of(parts...))
	}
	if !bytes.Equal(room, was) || len(parts) != 3 || len(parts[0]) != 4 || len(parts[1]) != 5 || parts[2] != nil {
		t.Error("changed", room, parts)
	}
	in[0] = '0'
	if Of(in) != told(in) {
		t.Error("kept", Of(in))
	}
}

// However bytes are cut, they have one sum: every way to cut ten bytes.
func TestP3_2EveryCut(t *testing.T) {
	b := some(rand.New(rand.NewSource(39)), 10)
	want := crc32.ChecksumIEEE(b)
	for mask := range 1 << 9 {
		var parts [][]byte
		more, joined, from := uint32(0), uint32(0), 0
		for i := range 10 {
			if i < 9 && mask>>i&1 == 0 {
				continue
			}
			part := b[from : i+1]
			from = i + 1
			parts = append(parts, part)
			more = More(more, part)
			joined = Join(joined, Of(part), len(part))
		}
		if Of(parts...) != want || more != want || joined != want {
			t.Fatalf("%v: %#x, %#x, %#x, not %#x", parts, Of(parts...), more, joined, want)
		}
	}
}

// Parts without bytes change nothing, wherever they stand; many parts and long ones too.
func TestP3_2ManyParts(t *testing.T) {
	rnd := rand.New(rand.NewSource(310))
	for range 100 {
		b := some(rnd, rnd.Intn(3000))
		parts := [][]byte{nil}
		joined := uint32(0)
		for from := 0; from < len(b); {
			n := min(rnd.Intn(40), len(b)-from)
			parts = append(parts, b[from:from+n])
			joined = Join(joined, Of(b[from:from+n]), n)
			from += n
		}
		parts = append(parts, []byte{})
		if want := crc32.ChecksumIEEE(b); Of(parts...) != want || joined != want {
			t.Fatalf("%d bytes: %#x, %#x, not %#x", len(b), Of(parts...), joined, want)
		}
	}
}

// turn is b with bits turned from the bit at on: those that are 1 in burst.
func turn(b []byte, at int, burst uint32) []byte {
	b = slices.Clone(b)
	for i := range 32 {
		if burst>>i&1 == 1 {
			b[(at+i)/8] ^= 1 << ((at + i) % 8)
		}
	}
	return b
}

// room is how far a burst of 32 bits at a place stays within n bytes: those bits that it may turn.
func room(n, at int) uint32 {
	return uint32(uint64(1)<<min(32, 8*n-at) - 1)
}

// bursts are ways to turn some bits within 32: each one alone, neighbours, all, the ends, and some others.
func bursts(rnd *rand.Rand) []uint32 {
	out := []uint32{0xffffffff, 0x80000001, 0xedb88320, 0x04c11db7, 0xff, 0xff00, 0xffff0000, 0x00ffff00}
	for i := range 32 {
		out = append(out, 1<<i, 3<<i)
	}
	for range 50 {
		out = append(out, rnd.Uint32())
	}
	return out
}

// eachBurst goes over texts that differ from b within 32 bits side by side, at every place.
func eachBurst(rnd *rand.Rand, b []byte, see func(other []byte)) {
	for at := range 8 * len(b) {
		for _, burst := range bursts(rnd) {
			burst &= room(len(b), at)
			if burst != 0 {
				see(turn(b, at, burst))
			}
		}
	}
}

func TestP3_3OneByte(t *testing.T) {
	b := []byte("one byte of these is another")
	for i := range b {
		for v := 1; v < 256; v++ {
			other := slices.Clone(b)
			other[i] ^= byte(v)
			if Of(other) == Of(b) {
				t.Errorf("%q and %q: %#x", b, other, Of(b))
			}
		}
	}
}

func TestP3_3Bursts(t *testing.T) {
	rnd := rand.New(rand.NewSource(311))
	for n := range 24 {
		b := some(rnd, n)
		eachBurst(rnd, b, func(other []byte) {
			if Of(other) == Of(b) {
				t.Fatalf("%v and %v: %#x", b, other, Of(b))
			}
		})
	}
}

// sealed is a text with its sum behind it, the lowest byte first.
func sealed(b []byte) []byte {
	s := Of(b)
	return append(slices.Clone(b), byte(s), byte(s>>8), byte(s>>16), byte(s>>24))
}

func right(whole []byte) bool {
	return bytes.Equal(sealed(whole[:len(whole)-4]), whole)
}

// Bits of the text, of the sum behind it, and across both.
func TestP3_3SumBehind(t *testing.T) {
	rnd := rand.New(rand.NewSource(312))
	for n := range 24 {
		whole := sealed(some(rnd, n))
		if !right(whole) {
			t.Fatal("not right", whole)
		}
		eachBurst(rnd, whole, func(other []byte) {
			if right(other) {
				t.Fatalf("both are right: %v and %v", whole, other)
			}
		})
	}
}

// free asks whether no choice of some numbers, laid over each other by exclusive or, is 0.
func free(numbers []uint32) bool {
	var kept []uint32
	for _, v := range numbers {
		for _, k := range kept {
			v = min(v, v^k)
		}
		if v == 0 {
			return false
		}
		kept = append(kept, v)
	}
	return true
}

// What turned bits do to a sum is what each does alone, laid over each other: so, where the 32 bits at a place are free, every burst there is seen.
func TestP3_3EveryBurst(t *testing.T) {
	rnd := rand.New(rand.NewSource(313))
	whole := sealed(some(rnd, 60))
	wrong := func(b []byte) uint32 {
		n := len(b) - 4
		behind := uint32(b[n]) | uint32(b[n+1])<<8 | uint32(b[n+2])<<16 | uint32(b[n+3])<<24
		return Of(b[:n]) ^ behind
	}
	for at := range 8*len(whole) - 31 {
		var alone []uint32
		laid, burst := uint32(0), rnd.Uint32()
		for i := range 32 {
			w := wrong(turn(whole, at, 1<<i))
			alone = append(alone, w)
			laid ^= w * (burst >> i & 1)
		}
		if got := wrong(turn(whole, at, burst)); got != laid {
			t.Fatalf("bit %d, %#x: %#x, not %#x", at, burst, got, laid)
		}
		if !free(alone) {
			t.Fatalf("bit %d: a burst isn't seen", at)
		}
	}
}
