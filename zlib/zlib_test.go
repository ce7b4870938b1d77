package zlib

import (
	"bytes"
	"compress/flate"
	std "compress/zlib"
	"encoding/binary"
	"hash/adler32"
	"io"
	"math"
	"math/rand"
	"slices"
	"strings"
	"testing"

	"halftone/api"
	"halftone/bits"
	"halftone/deflate"
	"halftone/inflate"
)

// all pushes parts, up to the first error: what is told, and that error.
func all(limit int, parts ...[]byte) ([]byte, api.Errno, *Decoder) {
	d := New(limit)
	var text []byte
	for _, b := range parts {
		told, e := d.Push(b)
		text = append(text, told...)
		if e != api.OK {
			return text, e, d
		}
	}
	return text, api.OK, d
}

// single is each byte alone.
func single(b []byte) [][]byte {
	var parts [][]byte
	for i := range b {
		parts = append(parts, b[i:i+1])
	}
	return parts
}

// stands holds what a decoder says of itself.
func stands(t *testing.T, d *Decoder, done bool, rest []byte, total int) {
	t.Helper()
	if d.Done() != done || !bytes.Equal(d.Rest(), rest) || d.Total() != total {
		t.Fatal(d.Done(), d.Rest(), d.Total(), "not", done, rest, total)
	}
}

// wrap lays a head and a right foot around packed bytes.
func wrap(packed, text []byte) []byte {
	return binary.BigEndian.AppendUint32(slices.Concat([]byte{120, 156}, packed), adler32.Checksum(text))
}

// some is n random bytes of so many letters.
func some(rnd *rand.Rand, n, letters int) []byte {
	b := make([]byte, n)
	for i := range b {
		b[i] = byte(rnd.Intn(letters))
	}
	return b
}

func texts(rnd *rand.Rand) [][]byte {
	return [][]byte{
		nil, {7}, {0}, {255, 255}, []byte("Wikipedia"),
		[]byte(strings.Repeat("pass by pass, row by row. ", 60)),
		some(rnd, 300, 256), some(rnd, 5000, 3), some(rnd, 66000, 256), make([]byte, 70000), bytes.Repeat([]byte{255}, 70000),
	}
}

func TestP8_1Examples(t *testing.T) {
	want := []byte{120, 1, 1, 1, 0, 254, 255, 7, 0, 8, 0, 8}
	if b, e := Pack([]byte{7}, 0); !bytes.Equal(b, want) || e != api.OK {
		t.Error(b, e)
	}
	text, e, d := all(1, want)
	if !bytes.Equal(text, []byte{7}) || e != api.OK {
		t.Error(text, e)
	}
	stands(t, d, true, nil, 1)
}

func TestP8_1PackWrongHow(t *testing.T) {
	for _, how := range []int{math.MinInt, -2, -1, 4, 5, 256, 1 << 32, math.MaxInt} {
		for _, b := range [][]byte{nil, {7}, make([]byte, 300)} {
			if out, e := Pack(b, how); len(out) != 0 || e != api.ErrArg {
				t.Error(how, out, e)
			}
		}
	}
}

func TestP8_1PackParts(t *testing.T) {
	for _, text := range texts(rand.New(rand.NewSource(81))) {
		for how, second := range []byte{1, 94, 156, 218} {
			packed, _ := deflate.Pack(text, how)
			want := slices.Concat([]byte{120, second}, packed, binary.BigEndian.AppendUint32(nil, adler32.Checksum(text)))
			if b, e := Pack(text, how); !bytes.Equal(b, want) || e != api.OK {
				t.Error(len(text), how, e)
			}
		}
	}
}

// Every two bytes there are.
func TestP8_1EveryHead(t *testing.T) {
	heads := 0
	for first := range 256 {
		for second := range 256 {
			is := first%16 == 8 && first/16 <= 7 && second/32%2 == 0 && (first*256+second)%31 == 0
			if is {
				heads++
			}
			d := New(10)
			if told, e := d.Push([]byte{byte(first)}); len(told) != 0 || e != api.OK {
				t.Fatal(first, told, e)
			}
			want := api.OK
			if !is {
				want = api.ErrForm
			}
			if told, e := d.Push([]byte{byte(second)}); len(told) != 0 || e != want {
				t.Fatal(first, second, told, e)
			}
			stands(t, d, false, nil, 0)
			told, e := d.Push([]byte{1, 1, 0, 254, 255, 7, 0, 8, 0, 8})
			if e != want || is != bytes.Equal(told, []byte{7}) || !is && len(told) > 0 || d.Done() != is {
				t.Fatal(first, second, told, e)
			}
		}
	}
	if heads < 30 {
		t.Error("few heads", heads)
	}
}

func TestP8_1NamedHeads(t *testing.T) {
	for name, head := range map[string][]byte{
		"method 7":                 {119, 30},
		"method 9":                 {121, 24},
		"method 0":                 {112, 21},
		"reach 8":                  {136, 28},
		"reach 15":                 {248, 9},
		"dictionary":               {120, 32},
		"dictionary, other parity": {120, 187},
		"a rest of 1":              {120, 2},
		"a rest of 30":             {120, 0},
	} {
		for _, parts := range [][][]byte{{head}, {head[:1], head[1:]}, {slices.Concat(head, []byte{1, 1, 0, 254, 255, 7, 0, 8, 0, 8})}} {
			text, e, d := all(10, parts...)
			if len(text) != 0 || e != api.ErrForm {
				t.Error(name, text, e)
			}
			stands(t, d, false, nil, 0)
		}
	}
}

// row is the bytes of bits.
func row(spoken string) []byte {
	w := bits.NewWriter()
	for _, c := range spoken {
		w.Put(int(c-'0'), 1)
	}
	return w.Out()
}

// Each way in which the packed bytes may be wrong, behind a block that tells a byte.
func TestP8_1PackedErrors(t *testing.T) {
	for name, c := range map[string]struct {
		packed []byte
		want   api.Errno
	}{
		"kind three":         {[]byte{7}, api.ErrForm},
		"stored sizes":       {[]byte{1, 1, 0, 1, 0, 9}, api.ErrStored},
		"told counts":        {row("101" + "11111" + "00000" + "0000"), api.ErrCode},
		"told code":          {row("101" + "00000" + "00000" + "0000" + "000000000000"), api.ErrCode},
		"literal 286":        {row("110" + "11000110"), api.ErrSymbol},
		"distance 30":        {row("110" + "0000001" + "11110"), api.ErrSymbol},
		"farther than there": {row("110" + "0000001" + "00001"), api.ErrFar},
		"beyond the limit":   {row("110" + "0000001" + "00000"), api.ErrLong},
	} {
		b := slices.Concat([]byte{120, 1, 0, 1, 0, 254, 255, 7}, c.packed)
		want := []byte{7}
		if c.want == api.ErrLong {
			want = []byte{7, 7, 7}
		}
		text, e, d := all(3, b)
		if !bytes.Equal(text, want) || e != c.want {
			t.Error(name, text, e)
		}
		stands(t, d, false, nil, len(want))
	}
}

// Whatever stands behind a right head is answered as layer 6 does, as long as it hasn't ended.
func TestP8_1PackedAsLayer6(t *testing.T) {
	rnd := rand.New(rand.NewSource(82))
	met := map[api.Errno]int{}
	for range 20000 {
		text := some(rnd, rnd.Intn(60), 4)
		packed, _ := deflate.Pack(text, rnd.Intn(4))
		packed[rnd.Intn(len(packed))] ^= 1 << rnd.Intn(8)
		limit := rnd.Intn(100)
		ref := inflate.New(limit)
		told, want := ref.Push(packed)
		got, e, d := all(limit, []byte{120, 94}, packed)
		if !bytes.Equal(got, told) || d.Total() != len(told) {
			t.Fatal(got, told)
		}
		switch {
		case !ref.Done() && e != want:
			t.Fatal(e, want)
		case ref.Done() && len(ref.Rest()) < 4 && e != api.OK:
			t.Fatal(e)
		}
		if !ref.Done() {
			met[e]++
			stands(t, d, false, nil, len(told))
		}
	}
	for _, e := range []api.Errno{api.ErrForm, api.ErrCode, api.ErrSymbol, api.ErrFar, api.ErrStored, api.ErrLong} {
		if met[e] == 0 {
			t.Error("never met", e)
		}
	}
}

func TestP8_1Limits(t *testing.T) {
	rnd := rand.New(rand.NewSource(83))
	for _, text := range [][]byte{nil, {7}, some(rnd, 50, 3), make([]byte, 400)} {
		for how := range 4 {
			b, _ := Pack(text, how)
			for _, limit := range []int{math.MinInt, -1, 0, 1, 2, 49, 50, 51, 399, 400, 401, math.MaxInt} {
				got, e, d := all(limit, b)
				most := min(max(limit, 0), len(text))
				want := api.OK
				if most < len(text) {
					want = api.ErrLong
				}
				if !bytes.Equal(got, text[:most]) || e != want {
					t.Fatal(len(text), how, limit, len(got), e)
				}
				stands(t, d, want == api.OK, nil, most)
			}
		}
	}
}

func TestP8_1NilDecoder(t *testing.T) {
	var d *Decoder
	for _, b := range [][]byte{nil, {120}, {120, 1, 1, 0, 0, 255, 255, 0, 0, 0, 1}} {
		if told, e := d.Push(b); len(told) != 0 || e != api.ErrArg {
			t.Error(told, e)
		}
		stands(t, d, false, nil, 0)
	}
}

// A decoder that nobody made tells at most no bytes.
func TestP8_1ZeroDecoder(t *testing.T) {
	d := &Decoder{}
	stands(t, d, false, nil, 0)
	if told, e := d.Push([]byte{120, 1, 1, 0, 0, 255, 255, 0, 0, 0, 1, 9}); len(told) != 0 || e != api.OK {
		t.Error(told, e)
	}
	stands(t, d, true, []byte{9}, 0)
	d = &Decoder{}
	if told, e := d.Push([]byte{120, 1, 1, 1, 0, 254, 255, 7}); len(told) != 0 || e != api.ErrLong {
		t.Error(told, e)
	}
}

func TestP8_1NoBytes(t *testing.T) {
	for _, parts := range [][][]byte{{}, {nil}, {nil, {}}} {
		text, e, d := all(10, parts...)
		if len(text) != 0 || e != api.OK {
			t.Error(text, e)
		}
		stands(t, d, false, nil, 0)
	}
}

// A byte is told as soon as layer 6 tells it, and the end is there with the foot's last byte, not ahead of it.
func TestP8_1AsItComes(t *testing.T) {
	rnd := rand.New(rand.NewSource(84))
	for _, text := range [][]byte{nil, {7}, some(rnd, 200, 4), some(rnd, 100, 256)} {
		for how := range 4 {
			b, _ := Pack(text, how)
			d, ref := New(len(text)), inflate.New(len(text))
			for i := range b {
				stands(t, d, false, nil, ref.Total())
				var want []byte
				if i >= 2 && i < len(b)-4 {
					want, _ = ref.Push(b[i : i+1])
				}
				if told, e := d.Push(b[i : i+1]); !bytes.Equal(told, want) || e != api.OK {
					t.Fatal(how, i, told, want, e)
				}
			}
			stands(t, d, true, nil, len(text))
		}
	}
}

func TestP8_1BehindTheFoot(t *testing.T) {
	rnd := rand.New(rand.NewSource(85))
	for _, text := range texts(rnd) {
		b, _ := Pack(text, 3)
		rest := []byte{120, 1, 1}
		got, e, d := all(len(text), slices.Concat(b, rest))
		if !bytes.Equal(got, text) || e != api.OK {
			t.Fatal(len(got), e)
		}
		for _, more := range [][]byte{{1}, nil, {120, 1, 1, 1, 0, 254, 255, 7, 0, 8, 0, 8}, {255, 7}} {
			stands(t, d, true, rest, len(text))
			if told, e := d.Push(more); len(told) != 0 || e != api.OK {
				t.Fatal(told, e)
			}
			rest = append(rest, more...)
		}
		stands(t, d, true, rest, len(text))
	}
}

func TestP8_1BehindAnError(t *testing.T) {
	good := []byte{120, 1, 1, 1, 0, 254, 255, 7, 0, 8, 0, 8}
	for name, c := range map[string]struct {
		b     []byte
		want  api.Errno
		total int
	}{
		"head": {[]byte{120, 2}, api.ErrForm, 0},
		"kind": {[]byte{120, 1, 7}, api.ErrForm, 0},
		"size": {[]byte{120, 1, 1, 1, 0, 255, 255}, api.ErrStored, 0},
		"long": {[]byte{120, 1, 1, 9, 0, 246, 255, 1, 2, 3, 4}, api.ErrLong, 3},
		"foot": {[]byte{120, 1, 1, 1, 0, 254, 255, 7, 0, 8, 0, 9}, api.ErrSum, 1},
	} {
		for _, behind := range [][]byte{nil, {5, 6}} {
			_, e, d := all(3, slices.Concat(c.b, behind))
			if e != c.want {
				t.Fatal(name, e)
			}
			for _, more := range [][]byte{good, nil, good[2:], {0, 8, 0, 8}} {
				stands(t, d, false, nil, c.total)
				if told, e := d.Push(more); len(told) != 0 || e != c.want {
					t.Fatal(name, told, e)
				}
			}
			stands(t, d, false, nil, c.total)
		}
	}
}

// What is handed in stays as it was, its spare room too, and may change afterwards; so may what was answered.
func TestP8_1Memory(t *testing.T) {
	rnd := rand.New(rand.NewSource(86))
	spoil := func(b []byte) {
		b = b[:cap(b)]
		for i := range b {
			b[i] ^= 85
		}
	}
	for how := range 4 {
		text := some(rnd, 300, 9)
		room := append(slices.Clone(text), 1, 2, 3)
		was := slices.Clone(room)
		b, _ := Pack(room[:300], how)
		if !bytes.Equal(room, was) {
			t.Fatal("changed")
		}
		b = append(b, 9, 8, 7)
		d := New(300)
		var got []byte
		for i := 0; i < len(b); i += 3 {
			part := append(make([]byte, 0, 8), b[i:min(i+3, len(b))]...)
			was := slices.Clone(part[:8])
			told, e := d.Push(part)
			if e != api.OK || !bytes.Equal(part[:8], was) {
				t.Fatal(e, part[:8], was)
			}
			got = append(got, told...)
			spoil(part)
			spoil(told)
			spoil(d.Rest())
		}
		if !bytes.Equal(got, text) {
			t.Fatal(how)
		}
		stands(t, d, true, []byte{9, 8, 7}, 300)
	}
}

func TestP8_1TwoDecoders(t *testing.T) {
	a, _ := Pack([]byte("row by row by row"), 1)
	b, _ := Pack([]byte("pass by pass by pass"), 2)
	d, f := New(100), New(100)
	var x, y []byte
	for i := range max(len(a), len(b)) {
		if i < len(a) {
			told, _ := d.Push(a[i : i+1])
			x = append(x, told...)
		}
		if i < len(b) {
			told, _ := f.Push(b[i : i+1])
			y = append(y, told...)
		}
	}
	if string(x) != "row by row by row" || string(y) != "pass by pass by pass" || !d.Done() || !f.Done() {
		t.Error(string(x), string(y))
	}
}

// same holds two ways of cutting against each other.
func same(t *testing.T, limit int, whole []byte, parts ...[]byte) {
	t.Helper()
	want, e, d := all(limit, whole)
	got, f, g := all(limit, parts...)
	if !bytes.Equal(got, want) || e != f {
		t.Fatalf("%v and %d, not %v and %d", got, f, want, e)
	}
	stands(t, g, d.Done(), d.Rest(), d.Total())
}

// someBytes are wrapped ones, with others behind; some of them have faults, or end too early.
func someBytes(rnd *rand.Rand) []byte {
	b, _ := Pack(some(rnd, rnd.Intn(80), 1+rnd.Intn(256)), rnd.Intn(4))
	switch rnd.Intn(5) {
	case 0:
		return b[:rnd.Intn(len(b))]
	case 1:
		b[rnd.Intn(len(b))] ^= 1 << rnd.Intn(8)
	case 2:
		return append(b, 1, 2, 3, 4, 5)
	case 3:
		b[len(b)-1-rnd.Intn(4)] ^= 1 << rnd.Intn(8)
		return append(b, 1, 2)
	}
	return b
}

func TestP8_2EveryCut(t *testing.T) {
	rnd := rand.New(rand.NewSource(87))
	for range 60 {
		b := someBytes(rnd)
		limit := []int{math.MaxInt, 20, 80}[rnd.Intn(3)]
		for n := range len(b) + 1 {
			same(t, limit, b, b[:n], b[n:])
			same(t, limit, b, b[:n], nil, b[n:], nil)
		}
		same(t, limit, b, append([][]byte{nil}, single(b)...)...)
	}
}

func TestP8_2ManyCuts(t *testing.T) {
	rnd := rand.New(rand.NewSource(88))
	for range 500 {
		b := someBytes(rnd)
		var parts [][]byte
		for left := b; len(left) > 0; {
			n := rnd.Intn(min(len(left), 7) + 1)
			parts = append(parts, left[:n])
			left = left[n:]
		}
		same(t, math.MaxInt, b, parts...)
	}
}

func TestP8_2OneByOne(t *testing.T) {
	for _, text := range texts(rand.New(rand.NewSource(89))) {
		b, _ := Pack(text, 3)
		same(t, len(text), b, single(b)...)
	}
}

func TestP8_3ThereAndBack(t *testing.T) {
	for _, text := range texts(rand.New(rand.NewSource(90))) {
		for how := range 4 {
			b, e := Pack(text, how)
			if e != api.OK {
				t.Fatal(e)
			}
			got, e, d := all(len(text), b)
			if !bytes.Equal(got, text) || e != api.OK {
				t.Fatal(len(text), how, len(got), e)
			}
			stands(t, d, true, nil, len(text))
			in := bytes.NewReader(b)
			r, err := std.NewReader(in)
			if err != nil {
				t.Fatal(err)
			}
			if got, err := io.ReadAll(r); !bytes.Equal(got, text) || err != nil || in.Len() != 0 {
				t.Fatal(len(text), how, len(got), err, in.Len())
			}
		}
	}
}

func TestP8_3ReadsTheLibrarys(t *testing.T) {
	for _, text := range texts(rand.New(rand.NewSource(91))) {
		for _, level := range []int{flate.NoCompression, flate.BestSpeed, flate.DefaultCompression, flate.BestCompression, flate.HuffmanOnly} {
			var out bytes.Buffer
			w, _ := std.NewWriterLevel(&out, level)
			w.Write(text)
			w.Close()
			got, e, d := all(len(text), out.Bytes())
			if !bytes.Equal(got, text) || e != api.OK {
				t.Fatal(len(text), level, len(got), e)
			}
			stands(t, d, true, nil, len(text))
		}
	}
}

// Every other foot by one bit, and many others: what is told ahead of it is told still.
func TestP8_3OtherFoot(t *testing.T) {
	rnd := rand.New(rand.NewSource(92))
	for _, text := range [][]byte{nil, {7}, []byte("Wikipedia"), bytes.Repeat([]byte{255}, 3000)} {
		b, _ := Pack(text, 3)
		refuse := func(b []byte) {
			t.Helper()
			for _, parts := range [][][]byte{{b}, single(b)} {
				got, e, d := all(len(text), parts...)
				if !bytes.Equal(got, text) || e != api.ErrSum {
					t.Fatal(len(got), e)
				}
				stands(t, d, false, nil, len(text))
			}
		}
		for bit := range 32 {
			other := slices.Clone(b)
			other[len(b)-4+bit/8] ^= 1 << (bit % 8)
			refuse(other)
		}
		for range 200 {
			other := slices.Clone(b)
			rnd.Read(other[len(b)-4:])
			if !bytes.Equal(other, b) {
				refuse(other)
			}
		}
		turned := slices.Clone(b)
		slices.Reverse(turned[len(b)-4:])
		if !bytes.Equal(turned, b) {
			refuse(turned)
		}
	}
}

// A foot whose halves are beyond the bound is not the sum that it would be below it.
func TestP8_3FootBeyondTheBound(t *testing.T) {
	text := make([]byte, 65521-1)
	for sum := adler32.Checksum(text); sum>>16 > 14; sum = adler32.Checksum(text) {
		text = append(text, 0)
	}
	packed, _ := deflate.Pack(text, 3)
	b := wrap(packed, text)
	if got, e, _ := all(len(text), b); !bytes.Equal(got, text) || e != api.OK {
		t.Fatal(len(got), e)
	}
	at := b[len(b)-4:]
	v := binary.BigEndian.Uint32(at) + 65521<<16
	binary.BigEndian.PutUint32(at, v)
	if got, e, d := all(len(text), b); !bytes.Equal(got, text) || e != api.ErrSum || d.Done() {
		t.Error(len(got), e)
	}
}
