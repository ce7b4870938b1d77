package deflate

import (
	"halftone/api"
	"halftone/bits"
	"halftone/huff"
)

// The symbols of the literals' code, and how many each code has.
const (
	endSymbol   = 256
	firstLength = 257
	lastLength  = 285
	literals    = 286
	distances   = 30
)

// How a symbol's number grows: so many symbols at a time have one bit more behind them than those ahead.
const (
	lengthGroup   = 4
	distanceGroup = 2
	nearestCopy   = 1
)

// In the fixed codes there are words that mean nothing, too: without them the others would be no code.
const (
	fixedLiterals  = 288
	fixedDistances = 32
	fixedFarBits   = 5
)

// piece is the lowest n bits of a number.
type piece struct{ v, n int }

// symbol is one of a code, and the bits behind its word.
type symbol struct {
	sym  int
	more piece
}

// spread is a number's symbol, counted from the code's first one.
func spread(v, group int) symbol {
	n := 0
	for v>>n >= 2*group {
		n++
	}
	return symbol{group*n + v>>n, piece{v, n}}
}

// lengthSymbol is a copy's length as a symbol. The longest one has a symbol of its own, without bits.
func lengthSymbol(length int) symbol {
	if length == longestCopy {
		return symbol{sym: lastLength}
	}
	s := spread(length-shortestCopy, lengthGroup)
	s.sym += firstLength
	return s
}

func distanceSymbol(distance int) symbol { return spread(distance-nearestCopy, distanceGroup) }

// tally is how often each symbol comes, and how many bits stand behind them all.
type tally struct {
	literals, distances []int
	more                int
}

// count counts a block's steps, and its end.
func count(steps []step) tally {
	t := tally{literals: make([]int, literals), distances: make([]int, distances)}
	for _, s := range steps {
		if s.distance == 0 {
			t.literals[s.literal]++
			continue
		}
		length, distance := lengthSymbol(s.length), distanceSymbol(s.distance)
		t.literals[length.sym]++
		t.distances[distance.sym]++
		t.more += length.more.n + distance.more.n
	}
	t.literals[endSymbol]++
	return t
}

// plan is how a block of symbols is put: its kind, how its codes are told, and the codes.
type plan struct {
	kind                int
	head                []piece
	literals, distances *huff.Code
}

// fixedPlan is that of fixed blocks.
func fixedPlan() plan {
	lits := make([]int, fixedLiterals)
	for sym := range lits {
		lits[sym] = fixedLength(sym)
	}
	dists := make([]int, fixedDistances)
	for sym := range dists {
		dists[sym] = fixedFarBits
	}
	return plan{kind: fixed, literals: code(lits), distances: code(dists)}
}

// fixedLength is that of a literal's word in fixed blocks.
func fixedLength(sym int) int {
	switch {
	case sym < 144:
		return 8
	case sym < 256:
		return 9
	case sym < 280:
		return 7
	}
	return 8
}

// code is that of lengths which are known to be a code's.
func code(lens []int) *huff.Code {
	c, _ := huff.New(lens)
	return c
}

// best is the best lengths of words of at most so many bits, where there are few enough symbols for them.
func best(counts []int, most int) []int {
	lens, _ := huff.Lengths(counts, most)
	return lens
}

// toldPlan is that of a told block whose codes are the best ones for what it has.
func toldPlan(t tally) plan {
	lits := trimmed(best(t.literals, api.MaxBits), leastLiterals)
	dists := trimmed(best(t.distances, api.MaxBits), leastFar)
	return plan{
		kind:      told,
		head:      tellLengths(lits, dists),
		literals:  code(lits),
		distances: code(dists),
	}
}

// cost is how many bits put puts, of steps that are counted.
func (p plan) cost(t tally) int {
	all := t.more
	for _, x := range p.head {
		all += x.n
	}
	return all + wordBits(p.literals, t.literals) + wordBits(p.distances, t.distances)
}

// wordBits is how many bits the words of symbols have that come so often.
func wordBits(c *huff.Code, counts []int) int {
	all := 0
	for sym, n := range counts {
		_, length := c.Word(sym)
		all += n * length
	}
	return all
}

// put writes a block of steps, up to its end.
func (p plan) put(w *bits.Writer, steps []step) {
	for _, x := range p.head {
		w.Put(x.v, x.n)
	}
	for _, s := range steps {
		if s.distance == 0 {
			w.Put(p.literals.Word(int(s.literal)))
			continue
		}
		putSymbol(w, p.literals, lengthSymbol(s.length))
		putSymbol(w, p.distances, distanceSymbol(s.distance))
	}
	w.Put(p.literals.Word(endSymbol))
}

func putSymbol(w *bits.Writer, c *huff.Code, s symbol) {
	w.Put(c.Word(s.sym))
	w.Put(s.more.v, s.more.n)
}
