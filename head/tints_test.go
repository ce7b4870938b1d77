package head

import (
	"bytes"
	"math"
	"math/rand"
	"slices"
	"testing"

	"halftone/api"
)

// some is n random bytes.
func some(rnd *rand.Rand, n int) []byte {
	b := make([]byte, n)
	rnd.Read(b)
	return b
}

func tintsAsSlow(t *testing.T, h api.Head, b []byte) {
	t.Helper()
	got, e := ReadTints(h, b)
	if want, err := slowReadTints(h, b); !slices.Equal(got, want) || e != err {
		t.Fatal(h, len(b), got, e, "not", want, err)
	}
}

func clearAsSlow(t *testing.T, h api.Head, tints int, b []byte) {
	t.Helper()
	alpha, samples, e := ReadClear(h, tints, b)
	wantAlpha, wantSamples, want := slowReadClear(h, tints, b)
	if !slices.Equal(alpha, wantAlpha) || !slices.Equal(samples, wantSamples) || e != want {
		t.Fatal(h, tints, b, alpha, samples, e, "not", wantAlpha, wantSamples, want)
	}
}

func TestP12_1ReadTintsNamed(t *testing.T) {
	of := func(color, depth int) api.Head { return api.Head{W: 1, H: 1, Color: color, Depth: depth} }
	for name, c := range map[string]struct {
		h api.Head
		n int
		e api.Errno
	}{
		"grey":                      {of(0, 8), 3, api.ErrPalette},
		"grey, nothing":             {of(0, 1), 0, api.ErrPalette},
		"grey with cover":           {of(4, 8), 3, api.ErrPalette},
		"grey with cover, many":     {of(4, 16), 768, api.ErrPalette},
		"colours, nothing":          {of(2, 8), 0, api.ErrPalette},
		"colours, 1":                {of(2, 8), 1, api.ErrPalette},
		"colours, 2":                {of(2, 8), 2, api.ErrPalette},
		"colours, 3":                {of(2, 8), 3, api.OK},
		"colours, 4":                {of(2, 8), 4, api.ErrPalette},
		"colours, 767":              {of(2, 16), 767, api.ErrPalette},
		"colours, 768":              {of(2, 16), 768, api.OK},
		"colours, 769":              {of(2, 16), 769, api.ErrPalette},
		"colours, 771":              {of(2, 16), 771, api.ErrPalette},
		"with cover, 768":           {of(6, 8), 768, api.OK},
		"with cover, 771":           {of(6, 8), 771, api.ErrPalette},
		"with cover, 3":             {of(6, 16), 3, api.OK},
		"a table, nothing":          {of(3, 8), 0, api.ErrPalette},
		"a table, 2":                {of(3, 8), 2, api.ErrPalette},
		"a table, 1 bit":            {of(3, 1), 6, api.OK},
		"a table, 1 bit, one more":  {of(3, 1), 9, api.ErrPalette},
		"a table, 2 bits":           {of(3, 2), 12, api.OK},
		"a table, 2 bits, one more": {of(3, 2), 15, api.ErrPalette},
		"a table, 4 bits":           {of(3, 4), 48, api.OK},
		"a table, 4 bits, one more": {of(3, 4), 51, api.ErrPalette},
		"a table, 8 bits":           {of(3, 8), 768, api.OK},
		"a table, 8 bits, one more": {of(3, 8), 771, api.ErrPalette},
		"no head":                   {api.Head{}, 3, api.ErrHead},
		"no head, nothing":          {api.Head{}, 0, api.ErrHead},
		"no sides, grey":            {api.Head{Color: 4, Depth: 8}, 3, api.ErrHead},
		"no such depth, too many":   {of(3, 16), 771, api.ErrHead},
	} {
		l, e := ReadTints(c.h, make([]byte, c.n))
		if e != c.e || e == api.OK && len(l) != c.n/3 || e != api.OK && len(l) != 0 {
			t.Error(name, l, e)
		}
	}
}

func TestP12_1ReadTintsEveryLength(t *testing.T) {
	b := some(rand.New(rand.NewSource(122)), 800)
	for _, h := range fitting(3, 2) {
		for n := range len(b) + 1 {
			tintsAsSlow(t, h, b[:n])
		}
	}
}

// That the head may not be is told ahead of all that is wrong with the colours.
func TestP12_1ReadTintsWrongHead(t *testing.T) {
	for _, h := range wrong() {
		for _, n := range []int{0, 1, 2, 3, 6, 768, 771, 3000} {
			if l, e := ReadTints(h, make([]byte, n)); len(l) != 0 || e != api.ErrHead {
				t.Error(h, n, l, e)
			}
		}
	}
}

func TestP12_1WriteTints(t *testing.T) {
	for _, none := range [][]api.Tint{nil, {}} {
		if b := WriteTints(none); len(b) != 0 {
			t.Error(b)
		}
	}
	if b := WriteTints([]api.Tint{{R: 1, G: 2, B: 3}, {R: 255, G: 0, B: 254}}); !bytes.Equal(b, []byte{1, 2, 3, 255, 0, 254}) {
		t.Error(b)
	}
	// It writes more than any picture may have.
	if b := WriteTints(make([]api.Tint, 1000)); !bytes.Equal(b, make([]byte, 3000)) {
		t.Error(len(b))
	}
}

func TestP12_2TintsThereAndBack(t *testing.T) {
	rnd := rand.New(rand.NewSource(123))
	for _, h := range fitting(3, 2) {
		most := 256
		switch h.Color {
		case 0, 4:
			continue
		case 3:
			most = 1 << h.Depth
		}
		for n := 1; n <= most; n++ {
			b := some(rnd, 3*n)
			l, e := ReadTints(h, b)
			if len(l) != n || e != api.OK || !bytes.Equal(WriteTints(l), b) {
				t.Fatal(h, n, l, e)
			}
			again, e := ReadTints(h, WriteTints(l))
			if !slices.Equal(again, l) || e != api.OK {
				t.Fatal(h, n, again, e)
			}
		}
	}
}

func TestP12_1ReadClearNamed(t *testing.T) {
	of := func(color, depth int) api.Head { return api.Head{W: 1, H: 1, Color: color, Depth: depth} }
	for name, c := range map[string]struct {
		h              api.Head
		tints          int
		b              []byte
		alpha, samples []int
		e              api.Errno
	}{
		"a table":                       {of(3, 8), 3, []byte{0, 255}, []int{0, 255}, nil, api.OK},
		"as many as tints":              {of(3, 8), 3, []byte{1, 2, 3}, []int{1, 2, 3}, nil, api.OK},
		"one more":                      {of(3, 8), 3, []byte{1, 2, 3, 4}, nil, nil, api.ErrPalette},
		"a table, nothing":              {of(3, 8), 3, nil, nil, nil, api.ErrPalette},
		"no tints":                      {of(3, 8), 0, []byte{1}, nil, nil, api.ErrPalette},
		"no tints, nothing":             {of(3, 8), 0, nil, nil, nil, api.ErrPalette},
		"tints below 0":                 {of(3, 8), -1, []byte{1}, nil, nil, api.ErrPalette},
		"tints below 0, nothing":        {of(3, 8), -1, []byte{}, nil, nil, api.ErrPalette},
		"tints far below 0":             {of(3, 8), math.MinInt, []byte{1, 2}, nil, nil, api.ErrPalette},
		"tints without number":          {of(3, 1), math.MaxInt, []byte{9, 8, 7}, []int{9, 8, 7}, nil, api.OK},
		"grey":                          {of(0, 16), 0, []byte{1, 2}, nil, []int{258}, api.OK},
		"grey, the greatest":            {of(0, 16), 0, []byte{255, 255}, nil, []int{65535}, api.OK},
		"grey, whatever tints":          {of(0, 16), -7, []byte{0, 0}, nil, []int{0}, api.OK},
		"grey of 8 bits":                {of(0, 8), 0, []byte{0, 255}, nil, []int{255}, api.OK},
		"grey of 8 bits, one more":      {of(0, 8), 0, []byte{1, 0}, nil, nil, api.ErrPalette},
		"grey of 4 bits":                {of(0, 4), 0, []byte{0, 15}, nil, []int{15}, api.OK},
		"grey of 4 bits, one more":      {of(0, 4), 0, []byte{0, 16}, nil, nil, api.ErrPalette},
		"grey of 2 bits":                {of(0, 2), 0, []byte{0, 3}, nil, []int{3}, api.OK},
		"grey of 2 bits, one more":      {of(0, 2), 0, []byte{0, 4}, nil, nil, api.ErrPalette},
		"grey of 1 bit":                 {of(0, 1), 0, []byte{0, 1}, nil, []int{1}, api.OK},
		"grey of 1 bit, one more":       {of(0, 1), 0, []byte{0, 2}, nil, nil, api.ErrPalette},
		"grey, the high byte":           {of(0, 1), 0, []byte{1, 0}, nil, nil, api.ErrPalette},
		"grey, nothing":                 {of(0, 8), 9, nil, nil, nil, api.ErrPalette},
		"grey, one byte":                {of(0, 8), 9, []byte{0}, nil, nil, api.ErrPalette},
		"grey, three bytes":             {of(0, 8), 9, []byte{0, 1, 0}, nil, nil, api.ErrPalette},
		"grey, six bytes":               {of(0, 8), 9, []byte{0, 1, 0, 2, 0, 3}, nil, nil, api.ErrPalette},
		"colours":                       {of(2, 16), 0, []byte{1, 2, 3, 4, 255, 255}, nil, []int{258, 772, 65535}, api.OK},
		"colours of 8 bits":             {of(2, 8), 0, []byte{0, 255, 0, 0, 0, 1}, nil, []int{255, 0, 1}, api.OK},
		"colours, too much red":         {of(2, 8), 0, []byte{1, 0, 0, 0, 0, 0}, nil, nil, api.ErrPalette},
		"colours, too much green":       {of(2, 8), 0, []byte{0, 0, 1, 0, 0, 0}, nil, nil, api.ErrPalette},
		"colours, too much blue":        {of(2, 8), 0, []byte{0, 0, 0, 0, 1, 0}, nil, nil, api.ErrPalette},
		"colours, nothing":              {of(2, 8), 9, nil, nil, nil, api.ErrPalette},
		"colours, two bytes":            {of(2, 8), 9, []byte{0, 1}, nil, nil, api.ErrPalette},
		"colours, five bytes":           {of(2, 8), 9, []byte{0, 1, 0, 1, 0}, nil, nil, api.ErrPalette},
		"colours, seven bytes":          {of(2, 8), 9, []byte{0, 1, 0, 1, 0, 1, 0}, nil, nil, api.ErrPalette},
		"grey with cover, two bytes":    {of(4, 8), 9, []byte{0, 1}, nil, nil, api.ErrPalette},
		"grey with cover, four bytes":   {of(4, 8), 9, []byte{0, 1, 0, 1}, nil, nil, api.ErrPalette},
		"grey with cover, nothing":      {of(4, 16), 9, nil, nil, nil, api.ErrPalette},
		"colours with cover, six bytes": {of(6, 8), 9, []byte{0, 1, 0, 1, 0, 1}, nil, nil, api.ErrPalette},
		"colours with cover, eight":     {of(6, 16), 9, make([]byte, 8), nil, nil, api.ErrPalette},
		"no head":                       {api.Head{}, 9, []byte{0, 1}, nil, nil, api.ErrHead},
		"no head, nothing":              {api.Head{}, 0, nil, nil, nil, api.ErrHead},
		"no such depth, empty":          {of(3, 16), 0, nil, nil, nil, api.ErrHead},
		"no sides, with cover":          {api.Head{Color: 6, Depth: 8}, 9, nil, nil, nil, api.ErrHead},
	} {
		alpha, samples, e := ReadClear(c.h, c.tints, c.b)
		if !slices.Equal(alpha, c.alpha) || !slices.Equal(samples, c.samples) || e != c.e {
			t.Error(name, alpha, samples, e)
		}
		clearAsSlow(t, c.h, c.tints, c.b)
	}
}

// Every kind, with many numbers of bytes and of tints.
func TestP12_1ReadClearLengths(t *testing.T) {
	b := some(rand.New(rand.NewSource(124)), 300)
	for _, h := range fitting(3, 2) {
		for n := range len(b) + 1 {
			for _, tints := range []int{math.MinInt, -n, -1, 0, 1, n - 1, n, n + 1, 256, math.MaxInt} {
				clearAsSlow(t, h, tints, b[:n])
				clearAsSlow(t, h, tints, make([]byte, n))
			}
		}
	}
}

// Every sample of one, and each of three.
func TestP12_1ReadClearEverySample(t *testing.T) {
	for _, h := range fitting(3, 2) {
		if h.Color != 0 && h.Color != 2 {
			continue
		}
		n := map[int]int{0: 2, 2: 6}[h.Color]
		for v := range 1 << 16 {
			b := make([]byte, n)
			at := v % 3 * 2 % n
			b[at], b[at+1] = byte(v/256), byte(v)
			clearAsSlow(t, h, 0, b)
		}
	}
}

func TestP12_1ReadClearWrongHead(t *testing.T) {
	for _, h := range wrong() {
		for _, n := range []int{0, 1, 2, 3, 6, 8, 300} {
			for _, tints := range []int{math.MinInt, -1, 0, 1, 256, math.MaxInt} {
				if alpha, samples, e := ReadClear(h, tints, make([]byte, n)); len(alpha) != 0 || len(samples) != 0 || e != api.ErrHead {
					t.Error(h, n, tints, alpha, samples, e)
				}
			}
		}
	}
}

func TestP12_1WriteClear(t *testing.T) {
	alpha := []int{0, 255, 256, 258, -1, -256, math.MinInt, math.MaxInt, 1<<32 + 7}
	low := []byte{0, 255, 0, 2, 255, 0, 0, 255, 7}
	samples := []int{0, 1, 258, 65535, 65536, 65538, -1, -2, math.MinInt, math.MaxInt}
	words := []byte{0, 0, 0, 1, 1, 2, 255, 255, 0, 0, 0, 2, 255, 255, 255, 254, 0, 0, 255, 255}
	for _, color := range []int{math.MinInt, -3, -1, 0, 1, 2, 3, 4, 5, 6, 7, 256, 259, 1<<32 + 3, math.MaxInt} {
		var want []byte
		switch color {
		case 3:
			want = low
		case 0, 2:
			want = words
		}
		// The rest of the head doesn't count, not even whether it may be.
		for _, h := range []api.Head{{W: 1, H: 1, Depth: 8}, {W: 1, H: 1, Depth: 1}, {W: -1, H: 5000, Depth: 99, Laced: true}, {}} {
			h.Color = color
			if b := WriteClear(h, alpha, samples); !bytes.Equal(b, want) {
				t.Error(h, b)
			}
			if b := WriteClear(h, nil, []int{}); len(b) != 0 {
				t.Error(h, b)
			}
		}
	}
	if b := WriteClear(api.Head{Color: 3}, nil, samples); len(b) != 0 {
		t.Error(b)
	}
	if b := WriteClear(api.Head{Color: 2}, alpha, nil); len(b) != 0 {
		t.Error(b)
	}
}

func TestP12_2ClearThereAndBack(t *testing.T) {
	rnd := rand.New(rand.NewSource(125))
	for _, h := range fitting(3, 2) {
		for n := 1; n <= 256; n++ {
			var alpha, samples []int
			switch h.Color {
			case 0, 2:
				for range Samples(h.Color) {
					samples = append(samples, rnd.Intn(1<<h.Depth))
				}
			case 3:
				for range n {
					alpha = append(alpha, rnd.Intn(256))
				}
			default:
				continue
			}
			b := WriteClear(h, alpha, samples)
			gotAlpha, gotSamples, e := ReadClear(h, n, b)
			if !slices.Equal(gotAlpha, alpha) || !slices.Equal(gotSamples, samples) || e != api.OK {
				t.Fatal(h, n, gotAlpha, gotSamples, e)
			}
			if again := WriteClear(h, gotAlpha, gotSamples); !bytes.Equal(again, b) {
				t.Fatal(h, n, again)
			}
		}
	}
}

// What is handed in stays as it was, its spare room too; what is answered is new.
func TestP12_1TintsHanded(t *testing.T) {
	h := api.Head{W: 1, H: 1, Color: 3, Depth: 8}
	room := []byte{1, 2, 3, 4, 5, 6, 77, 78, 79}
	before := slices.Clone(room)
	l, _ := ReadTints(h, room[:6])
	alpha, _, _ := ReadClear(h, 9, room[:6])
	_, samples, _ := ReadClear(api.Head{W: 1, H: 1, Color: 2, Depth: 16}, 9, room[:6])
	if !bytes.Equal(room, before) {
		t.Fatal("changed", room)
	}
	clear(room)
	if !slices.Equal(l, []api.Tint{{R: 1, G: 2, B: 3}, {R: 4, G: 5, B: 6}}) || !slices.Equal(alpha, []int{1, 2, 3, 4, 5, 6}) || !slices.Equal(samples, []int{258, 772, 1286}) {
		t.Fatal("shared", l, alpha, samples)
	}
	many := []api.Tint{{R: 1}, {G: 2}, {B: 3}}
	if b := WriteTints(many[:2]); !bytes.Equal(b, []byte{1, 0, 0, 0, 2, 0}) || many[2] != (api.Tint{B: 3}) {
		t.Fatal(b, many)
	}
	numbers := []int{1, 2, 3, 4}
	for color := range 7 {
		WriteClear(api.Head{Color: color}, numbers[:2], numbers[2:3])
	}
	if !slices.Equal(numbers, []int{1, 2, 3, 4}) {
		t.Fatal("changed", numbers)
	}
}
