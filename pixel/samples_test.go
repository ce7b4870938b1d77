package pixel

import (
	"bytes"
	"math"
	"math/rand"
	"slices"
	"testing"

	"halftone/api"
)

// numbers are depths and more: all from -1 to 17, and far ones, of which some have the lowest bits of depths.
func numbers() []int {
	l := []int{math.MinInt, -1 << 32, -16, -8, 32, 64, 256, 257, 264, 1 << 32, 1<<32 + 1, 1<<32 + 8, math.MaxInt}
	for n := -1; n <= 17; n++ {
		l = append(l, n)
	}
	return l
}

// some is n random samples, below end.
func some(rnd *rand.Rand, n, end int) []int {
	l := make([]int, n)
	for i := range l {
		l[i] = rnd.Intn(end)
	}
	return l
}

func samplesAsSlow(t *testing.T, samples []int, depth int) {
	t.Helper()
	b, e := Pack(samples, depth)
	if want, err := slowPack(samples, depth); !bytes.Equal(b, want) || e != err {
		t.Fatal("Pack", samples, depth, b, e, "not", want, err)
	}
}

func bytesAsSlow(t *testing.T, b []byte, depth, n int) {
	t.Helper()
	l, e := Unpack(b, depth, n)
	if want, err := slowUnpack(b, depth, n); !slices.Equal(l, want) || e != err {
		t.Fatal("Unpack", b, depth, n, l, e, "not", want, err)
	}
}

func TestP15_1SamplesExample(t *testing.T) {
	if b, e := Pack([]int{1, 0, 1}, 1); !bytes.Equal(b, []byte{160}) || e != api.OK {
		t.Error(b, e)
	}
	if l, e := Unpack([]byte{160}, 1, 3); !slices.Equal(l, []int{1, 0, 1}) || e != api.OK {
		t.Error(l, e)
	}
}

func TestP15_1PackNamed(t *testing.T) {
	for name, c := range map[string]struct {
		samples []int
		depth   int
		want    []byte
		e       api.Errno
	}{
		"the highest bit first":    {[]int{1}, 1, []byte{128}, api.OK},
		"just a byte of bits":      {[]int{1, 1, 0, 0, 0, 0, 0, 1}, 1, []byte{193}, api.OK},
		"a bit more":               {[]int{1, 1, 0, 0, 0, 0, 0, 1, 1}, 1, []byte{193, 128}, api.OK},
		"two bits":                 {[]int{3, 0, 1, 2, 3}, 2, []byte{198, 192}, api.OK},
		"four bits":                {[]int{10, 5, 15}, 4, []byte{165, 240}, api.OK},
		"bytes":                    {[]int{0, 255, 7}, 8, []byte{0, 255, 7}, api.OK},
		"the highest byte first":   {[]int{258, 65535, 0, 255, 256}, 16, []byte{1, 2, 255, 255, 0, 0, 0, 255, 1, 0}, api.OK},
		"no samples":               {nil, 4, nil, api.OK},
		"no samples, of a list":    {[]int{}, 16, nil, api.OK},
		"too great":                {[]int{2}, 1, nil, api.ErrArg},
		"below 0":                  {[]int{0, -1}, 16, nil, api.ErrArg},
		"the last one":             {[]int{0, 0, 0, 256}, 8, nil, api.ErrArg},
		"far too great":            {[]int{1 << 32}, 16, nil, api.ErrArg},
		"the least":                {[]int{math.MinInt}, 8, nil, api.ErrArg},
		"no samples, a wrong one":  {nil, 3, nil, api.ErrArg},
		"no depth":                 {[]int{0}, 0, nil, api.ErrArg},
		"noughts, a depth below 0": {[]int{0}, -1, nil, api.ErrArg},
	} {
		b, e := Pack(c.samples, c.depth)
		if !bytes.Equal(b, c.want) || e != c.e {
			t.Error(name, b, e)
		}
	}
}

func TestP15_1UnpackNamed(t *testing.T) {
	for name, c := range map[string]struct {
		b        []byte
		depth, n int
		want     []int
		e        api.Errno
	}{
		"bits":                            {[]byte{193, 128}, 1, 9, []int{1, 1, 0, 0, 0, 0, 0, 1, 1}, api.OK},
		"two bits":                        {[]byte{198, 192}, 2, 5, []int{3, 0, 1, 2, 3}, api.OK},
		"four bits":                       {[]byte{165, 240}, 4, 3, []int{10, 5, 15}, api.OK},
		"bytes":                           {[]byte{0, 255, 7}, 8, 3, []int{0, 255, 7}, api.OK},
		"two bytes":                       {[]byte{1, 2, 255, 255}, 16, 2, []int{258, 65535}, api.OK},
		"bits behind are not looked at":   {[]byte{191}, 1, 2, []int{1, 0}, api.OK},
		"bytes behind are not looked at":  {[]byte{191, 255, 255}, 4, 1, []int{11}, api.OK},
		"half a sample behind":            {[]byte{1, 2, 3}, 16, 1, []int{258}, api.OK},
		"none":                            {[]byte{1, 2, 3}, 16, 0, nil, api.OK},
		"none of nothing":                 {nil, 1, 0, nil, api.OK},
		"one of nothing":                  {nil, 1, 1, nil, api.ErrShort},
		"one too many of one bit":         {[]byte{160}, 1, 9, nil, api.ErrShort},
		"one too many of four bits":       {[]byte{160}, 4, 3, nil, api.ErrShort},
		"half a sample":                   {[]byte{1}, 16, 1, nil, api.ErrShort},
		"a sample and a half":             {[]byte{1, 2, 3}, 16, 2, nil, api.ErrShort},
		"the greatest int":                {[]byte{1, 2, 3}, 16, math.MaxInt, nil, api.ErrShort},
		"the greatest int, one bit":       {[]byte{1, 2, 3}, 1, math.MaxInt, nil, api.ErrShort},
		"as many as would turn round":     {[]byte{1, 2, 3}, 16, 1 << 60, nil, api.ErrShort},
		"below 0":                         {[]byte{1, 2, 3}, 8, -1, nil, api.ErrArg},
		"the least int":                   {[]byte{1, 2, 3}, 8, math.MinInt, nil, api.ErrArg},
		"a wrong depth":                   {[]byte{1, 2, 3}, 3, 1, nil, api.ErrArg},
		"a wrong depth, though too short": {nil, 5, 1, nil, api.ErrArg},
		"a wrong depth, of none":          {nil, 0, 0, nil, api.ErrArg},
	} {
		l, e := Unpack(c.b, c.depth, c.n)
		if !slices.Equal(l, c.want) || e != c.e {
			t.Error(name, l, e)
		}
	}
}

// Each depth, with samples at its edges at the first, a middle and the last place, and with none at all.
func TestP15_1PackEveryDepth(t *testing.T) {
	for _, depth := range numbers() {
		samplesAsSlow(t, nil, depth)
		edges := []int{math.MinInt, -1 << 32, -1, 0, 1, 2, 3, 4, 15, 16, 255, 256, 65535, 65536, 1 << 32, math.MaxInt}
		for _, v := range edges {
			for at := range 5 {
				l := make([]int, 5)
				l[at] = v
				samplesAsSlow(t, l, depth)
			}
		}
	}
}

// Each depth, with bytes of each length, and with as many samples as stand there, about as many, and far more.
func TestP15_1UnpackEveryDepth(t *testing.T) {
	rnd := rand.New(rand.NewSource(151))
	for _, depth := range numbers() {
		for size := range 6 {
			b := make([]byte, size)
			rnd.Read(b)
			for n := -2; n <= 8*size+2; n++ {
				bytesAsSlow(t, b, depth, n)
			}
			for _, n := range []int{math.MinInt, 1 << 32, 1 << 59, 1 << 60, 1 << 61, 1 << 62, math.MaxInt} {
				bytesAsSlow(t, b, depth, n)
			}
		}
	}
}

// All bytes, cut at every depth.
func TestP15_1UnpackEveryByte(t *testing.T) {
	for v := range 256 {
		for _, depth := range []int{1, 2, 4, 8} {
			bytesAsSlow(t, []byte{byte(v)}, depth, 8/depth)
			bytesAsSlow(t, []byte{0, byte(v), 255}, depth, 16/depth)
		}
		bytesAsSlow(t, []byte{byte(v), byte(255 - v)}, 16, 1)
	}
}

func TestP15_2ThereAndBack(t *testing.T) {
	rnd := rand.New(rand.NewSource(152))
	for _, depth := range []int{1, 2, 4, 8, 16} {
		for n := range 100 {
			samples := some(rnd, n, power(depth))
			samplesAsSlow(t, samples, depth)
			b, e := Pack(samples, depth)
			if e != api.OK || len(b) != (n*depth+7)/8 {
				t.Fatal(depth, n, b, e)
			}
			if l, e := Unpack(b, depth, n); !slices.Equal(l, samples) || e != api.OK {
				t.Fatal(depth, samples, l, e)
			}
			// The last byte is filled up with noughts.
			rest, e := Unpack(b, depth, len(b)*8/depth)
			if e != api.OK || slices.ContainsFunc(rest[n:], func(v int) bool { return v != 0 }) {
				t.Fatal(depth, rest, e)
			}
		}
	}
}

// Every sample of every depth, alone and behind others.
func TestP15_2EverySample(t *testing.T) {
	for _, depth := range []int{1, 2, 4, 8, 16} {
		for v := range power(depth) {
			for _, samples := range [][]int{{v}, {0, v}, {power(depth) - 1, v, 1}} {
				b, e := Pack(samples, depth)
				if l, err := Unpack(b, depth, len(samples)); !slices.Equal(l, samples) || e != api.OK || err != api.OK {
					t.Fatal(depth, samples, l, e, err)
				}
			}
		}
	}
}

// What is handed in stays as it was, its spare room too; what is answered is new.
func TestP15_1SamplesHanded(t *testing.T) {
	rnd := rand.New(rand.NewSource(153))
	for _, depth := range []int{1, 2, 4, 8, 16} {
		samples := some(rnd, 40, power(depth))
		was := slices.Clone(samples)
		b, _ := Pack(samples[:21], depth)
		kept := slices.Clone(b)
		if !slices.Equal(samples, was) {
			t.Fatal("changed", depth)
		}
		clear(samples)
		if !bytes.Equal(b, kept) {
			t.Fatal("shared", depth)
		}
		room := append(slices.Clone(b), 170, 85, 170, 85)
		wasRoom := slices.Clone(room)
		l, e := Unpack(room[:len(b)], depth, 21)
		if !bytes.Equal(room, wasRoom) || !slices.Equal(l, was[:21]) || e != api.OK {
			t.Fatal("changed", depth, l, e)
		}
		clear(room)
		if !slices.Equal(l, was[:21]) {
			t.Fatal("shared", depth)
		}
		// An answer that is written over is no other call's.
		for i := range l {
			l[i] = -1
		}
		for i := range b {
			b[i] = ^b[i]
		}
		again, _ := Pack(was[:21], depth)
		back, _ := Unpack(again, depth, 21)
		if !bytes.Equal(again, kept) || !slices.Equal(back, was[:21]) {
			t.Fatal("another answer", depth)
		}
	}
}
