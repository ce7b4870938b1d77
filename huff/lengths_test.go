package huff

import (
	"math"
	"math/rand"
	"slices"
	"testing"

	"halftone/api"
)

// cost is all counts, each times its length, together.
func cost(counts, lens []int) int {
	all := 0
	for i, n := range counts {
		all += n * lens[i]
	}
	return all
}

// least is the cost of the best code: of all trees, level by level from the root, so many of the open places words, the others forks. The greatest counts have the shortest words.
func least(counts []int, most int) int {
	var sorted []int
	for _, n := range counts {
		if n > 0 {
			sorted = append(sorted, n)
		}
	}
	slices.SortFunc(sorted, func(a, b int) int { return b - a })
	rest := make([]int, len(sorted)+1) // what the words from i on cost by a bit more
	for i := len(sorted) - 1; i >= 0; i-- {
		rest[i] = rest[i+1] + sorted[i]
	}
	const far = math.MaxInt / 2
	known := map[[3]int]int{}
	var from func(placed, open, level int) int
	from = func(placed, open, level int) int {
		left := len(sorted) - placed
		if left == 0 && open == 0 {
			return 0
		}
		if open > left || open == 0 || level == most && open != left {
			return far
		}
		key := [3]int{placed, open, level}
		if v, ok := known[key]; ok {
			return v
		}
		best := far
		for words := range open + 1 {
			if level == most && words != open {
				continue
			}
			forks := open - words
			best = min(best, rest[placed+words]+from(placed+words, 2*forks, level+1))
		}
		known[key] = best
		return best
	}
	if len(sorted) < 2 {
		return rest[0]
	}
	return rest[0] + from(0, 2, 1)
}

// every is the least cost, of all lengths there are: for few symbols alone.
func every(counts []int, most int) int {
	best := math.MaxInt
	lens := make([]int, len(counts))
	var walk func(at int)
	walk = func(at int) {
		if at == len(counts) {
			if _, e := New(lens); e == api.OK {
				best = min(best, cost(counts, lens))
			}
			return
		}
		if counts[at] == 0 {
			lens[at] = 0
			walk(at + 1)
			return
		}
		for n := 1; n <= most; n++ {
			lens[at] = n
			walk(at + 1)
		}
	}
	walk(0)
	return best
}

// holdLengths holds all that the chapter says of Lengths but the cost, and tells that.
func holdLengths(t *testing.T, counts []int, most int) int {
	t.Helper()
	lens, e := Lengths(counts, most)
	if e != api.OK || len(lens) != len(counts) {
		t.Fatal(counts, most, lens, e)
	}
	some := 0
	for i, n := range lens {
		if n > most || n < 0 || (n == 0) != (counts[i] == 0) {
			t.Fatal(counts, most, lens)
		}
		if n > 0 {
			some++
		}
	}
	if some == 1 && slices.Max(lens) != 1 {
		t.Fatal(counts, most, lens)
	}
	if c, e := New(lens); c == nil || e != api.OK {
		t.Fatal(counts, most, lens, e)
	}
	return cost(counts, lens)
}

// rising are counts such that the best lengths without a bound are all different but two: each is all ahead of it, and 1.
func rising(n int) []int {
	counts := []int{1, 1}
	for len(counts) < n {
		counts = append(counts, counts[len(counts)-1]+counts[len(counts)-2])
	}
	return counts[:n]
}

func TestP5_3Example(t *testing.T) {
	lens, e := Lengths([]int{5, 1, 1, 0}, 15)
	if e != api.OK || !slices.Equal(lens, []int{1, 2, 2, 0}) {
		t.Error(lens, e)
	}
}

func TestP5_3WrongArguments(t *testing.T) {
	some := []int{5, 1, 1, 0}
	for _, most := range []int{math.MinInt, -15, -1, 0, 16, 17, 64, 65, 1 << 32, 1<<32 + 1, math.MaxInt} {
		for _, counts := range [][]int{nil, {0}, {1}, some} {
			if lens, e := Lengths(counts, most); len(lens) != 0 || e != api.ErrArg {
				t.Error(counts, most, lens, e)
			}
		}
	}
	for name, counts := range map[string][]int{
		"below 0":         {-1},
		"below 0 behind":  {1, 2, -1},
		"far below 0":     {math.MinInt, 1},
		"above 2^31":      {1<<31 + 1},
		"above it behind": {1, 2, 1<<31 + 1},
		"far above":       {math.MaxInt},
		"289 of 0":        make([]int, api.MaxSymbols+1),
		"289 of 1":        slices.Repeat([]int{1}, api.MaxSymbols+1),
	} {
		for _, most := range []int{1, 2, 9, 15} {
			if lens, e := Lengths(counts, most); len(lens) != 0 || e != api.ErrArg {
				t.Error(name, most, lens, e)
			}
		}
	}
}

func TestP5_3TooMany(t *testing.T) {
	for most := 1; 1<<most < api.MaxSymbols; most++ {
		full := slices.Repeat([]int{3}, 1<<most)
		lens, e := Lengths(full, most)
		if e != api.OK || !slices.Equal(lens, slices.Repeat([]int{most}, 1<<most)) {
			t.Error(most, lens, e)
		}
		if lens, e = Lengths(append([]int{0}, full...), most); e != api.OK || len(lens) != len(full)+1 {
			t.Error(most, lens, e)
		}
		if lens, e = Lengths(append(full, 1), most); len(lens) != 0 || e != api.ErrCode {
			t.Error(most, lens, e)
		}
	}
	// An argument that may not be comes first.
	if lens, e := Lengths([]int{1, 1, 1, -1}, 1); len(lens) != 0 || e != api.ErrArg {
		t.Error(lens, e)
	}
}

func TestP5_3NoneAndOne(t *testing.T) {
	for most := 1; most <= api.MaxBits; most++ {
		for _, n := range []int{0, 1, 2, 7, api.MaxSymbols} {
			lens, e := Lengths(make([]int, n), most)
			if e != api.OK || len(lens) != n || slices.ContainsFunc(lens, func(l int) bool { return l != 0 }) {
				t.Error(n, most, lens, e)
			}
			for at := range n {
				for _, count := range []int{1, 2, 1 << 31} {
					counts := make([]int, n)
					want := make([]int, n)
					counts[at], want[at] = count, 1
					if lens, e := Lengths(counts, most); e != api.OK || !slices.Equal(lens, want) {
						t.Fatal(counts, most, lens, e)
					}
				}
			}
		}
	}
	if lens, e := Lengths(nil, 15); e != api.OK || len(lens) != 0 {
		t.Error(lens, e)
	}
}

// All counts of up to four symbols from a few numbers, against all lengths that there are.
func TestP5_3BestOfAll(t *testing.T) {
	values := []int{0, 1, 2, 3, 8, 1 << 31}
	for n := range 5 {
		for at := range int(math.Pow(6, float64(n))) {
			counts := make([]int, n)
			some := 0
			for i := range counts {
				counts[i] = values[at%6]
				at /= 6
				if counts[i] > 0 {
					some++
				}
			}
			for most := 1; most <= 4; most++ {
				if some > 1<<most {
					continue
				}
				if got, want := holdLengths(t, counts, most), every(counts, most); got != want || want != least(counts, most) {
					t.Fatal(counts, most, got, want, least(counts, most))
				}
			}
		}
	}
}

func TestP5_3Best(t *testing.T) {
	rnd := rand.New(rand.NewSource(53))
	for range 1500 {
		n := 1 + rnd.Intn(30)
		top := 1 << rnd.Intn(32)
		counts := make([]int, n)
		for i := range counts {
			switch rnd.Intn(4) {
			case 0:
				counts[i] = rnd.Intn(2)
			case 1:
				counts[i] = 1 << rnd.Intn(32)
			default:
				counts[i] = rnd.Intn(top + 1)
			}
		}
		most := 1 + rnd.Intn(api.MaxBits)
		for 1<<most < n {
			most++
		}
		if got, want := holdLengths(t, counts, most), least(counts, most); got != want {
			t.Fatal(counts, most, got, want)
		}
	}
}

// Counts whose best code without a bound is long and thin, with a bound from the least one on.
func TestP5_3BoundBinds(t *testing.T) {
	rnd := rand.New(rand.NewSource(54))
	for _, n := range []int{3, 4, 5, 8, 9, 16, 17, 32, 40} {
		counts := rising(n)
		rnd.Shuffle(n, func(i, j int) { counts[i], counts[j] = counts[j], counts[i] })
		for most := 1; most <= api.MaxBits; most++ {
			if 1<<most < n {
				continue
			}
			if got, want := holdLengths(t, counts, most), least(counts, most); got != want {
				t.Fatal(counts, most, got, want)
			}
		}
	}
	// Powers of two, for which the longest words would have 31 bits.
	var powers []int
	for i := range 32 {
		powers = append(powers, 1<<i)
	}
	for most := 5; most <= api.MaxBits; most++ {
		if got, want := holdLengths(t, powers, most), least(powers, most); got != want {
			t.Fatal(most, got, want)
		}
	}
}

func TestP5_3ManySymbols(t *testing.T) {
	rnd := rand.New(rand.NewSource(55))
	same := slices.Repeat([]int{1 << 31}, api.MaxSymbols)
	steep := make([]int, api.MaxSymbols)
	mixed := make([]int, api.MaxSymbols)
	for i := range steep {
		steep[i] = 1 << (i % 32)
		mixed[i] = rnd.Intn(1 << rnd.Intn(20))
	}
	for _, counts := range [][]int{same, steep, mixed} {
		for _, most := range []int{9, 11, 15} {
			if got, want := holdLengths(t, counts, most), least(counts, most); got != want {
				t.Fatal(most, got, want)
			}
		}
	}
}

// Without a bound that binds, the cost is that of putting the two lightest together, again and again.
func TestP5_3AsWithoutBound(t *testing.T) {
	rnd := rand.New(rand.NewSource(56))
	for n := 2; n <= api.MaxSymbols; n += 13 {
		counts := make([]int, n)
		for i := range counts {
			counts[i] = 1000 + rnd.Intn(1000)
		}
		heap, want := slices.Clone(counts), 0
		for len(heap) > 1 {
			slices.Sort(heap)
			both := heap[0] + heap[1]
			want += both
			heap = append(heap[2:], both)
		}
		if got := holdLengths(t, counts, api.MaxBits); got != want {
			t.Fatal(n, got, want)
		}
	}
}

func TestP5_3InputsStay(t *testing.T) {
	for _, counts := range [][]int{{}, {0}, {4}, {5, 1, 1, 0}, rising(30), {1, 1, 1}, {-1, 2}} {
		for _, most := range []int{0, 1, 5, 15} {
			room := append(slices.Clone(counts), 8, 8, 8)
			was := slices.Clone(room)
			lens, e := Lengths(room[:len(counts)], most)
			if !slices.Equal(room, was) {
				t.Fatal(counts, most, room)
			}
			before := slices.Clone(lens)
			for i := range room {
				room[i] = 77
			}
			if !slices.Equal(lens, before) {
				t.Fatal(counts, most, "shares memory")
			}
			again, e2 := Lengths(counts, most)
			if e != e2 || !slices.Equal(again, before) {
				t.Fatal(counts, most, lens, again)
			}
			for i := range lens {
				lens[i] = 99
			}
			if third, _ := Lengths(counts, most); !slices.Equal(third, before) {
				t.Fatal(counts, most, third)
			}
		}
	}
}

func TestP5_3WordsOfLengths(t *testing.T) {
	rnd := rand.New(rand.NewSource(57))
	for range 50 {
		counts := make([]int, 1+rnd.Intn(api.MaxSymbols))
		for i := range counts {
			counts[i] = rnd.Intn(1 << rnd.Intn(31))
		}
		lens, e := Lengths(counts, 9+rnd.Intn(7))
		if e != api.OK {
			t.Fatal(e)
		}
		c, words := made(t, lens), told(lens)
		for _, w := range words {
			holdNext(t, c, words, w)
		}
	}
}
