package inflate

import (
	"math/rand"
	"sort"

	"halftone/bits"
	"halftone/huff"
)

// The lengths and distances of RFC 1951, written out: the decoder's rule is held against them.
var (
	lengthLeast   = []int{3, 4, 5, 6, 7, 8, 9, 10, 11, 13, 15, 17, 19, 23, 27, 31, 35, 43, 51, 59, 67, 83, 99, 115, 131, 163, 195, 227, 258}
	lengthBits    = []int{0, 0, 0, 0, 0, 0, 0, 0, 1, 1, 1, 1, 2, 2, 2, 2, 3, 3, 3, 3, 4, 4, 4, 4, 5, 5, 5, 5, 0}
	distanceLeast = []int{1, 2, 3, 4, 5, 7, 9, 13, 17, 25, 33, 49, 65, 97, 129, 193, 257, 385, 513, 769, 1025, 1537, 2049, 3073, 4097, 6145, 8193, 12289, 16385, 24577}
	distanceBits  = []int{0, 0, 0, 0, 1, 1, 2, 2, 3, 3, 4, 4, 5, 5, 6, 6, 7, 7, 8, 8, 9, 9, 10, 10, 11, 11, 12, 12, 13, 13}
)

// packed is bytes that are packed item by item, with what they tell.
type packed struct {
	*bits.Writer
	text  []byte
	marks []mark
	lits  *huff.Code
	dists *huff.Code
	done  bool // whether the block at which it is is the last one, or was
}

// mark is that at so many bits so many bytes are told.
type mark struct{ bits, told int }

func pack() *packed { return &packed{Writer: bits.NewWriter()} }

func (p *packed) mark() { p.marks = append(p.marks, mark{p.Len(), len(p.text)}) }

// toldAt is how many bytes the first n bits tell.
func (p *packed) toldAt(n int) int {
	beyond := sort.Search(len(p.marks), func(i int) bool { return p.marks[i].bits > n })
	if beyond == 0 {
		return 0
	}
	return p.marks[beyond-1].told
}

func (p *packed) head(last bool, kind int) {
	v := kind << 1
	if last {
		v++
	}
	p.done = last
	p.Put(v, 3)
}

// fill puts bits that mean nothing up to a byte's end.
func (p *packed) fill(rnd *rand.Rand) {
	for p.Len()%8 != 0 {
		p.Put(rnd.Intn(2), 1)
	}
}

func (p *packed) stored(last bool, b []byte) {
	p.head(last, 0)
	p.Align()
	p.sizes(len(b), 65535-len(b))
	p.raw(b)
}

func (p *packed) sizes(a, b int) {
	p.Put(a, 16)
	p.Put(b, 16)
}

func (p *packed) raw(b []byte) {
	for _, x := range b {
		p.Put(int(x), 8)
		p.text = append(p.text, x)
		p.mark()
	}
}

// fixed begins a block of the fixed codes.
func (p *packed) fixed(last bool) {
	p.head(last, 1)
	lens := make([]int, 288)
	for i := range lens {
		lens[i] = 8
		if i >= 144 && i < 256 {
			lens[i] = 9
		}
		if i >= 256 && i < 280 {
			lens[i] = 7
		}
	}
	p.lits = code(lens)
	p.dists = code(flat(32, 5))
}

// flat is n equal lengths.
func flat(n, length int) []int {
	lens := make([]int, n)
	for i := range lens {
		lens[i] = length
	}
	return lens
}

func code(lens []int) *huff.Code {
	c, e := huff.New(lens)
	if e != 0 {
		panic(e)
	}
	return c
}

func (p *packed) word(c *huff.Code, sym int) {
	v, n := c.Word(sym)
	if n == 0 {
		panic(sym)
	}
	p.Put(v, n)
}

func (p *packed) lit(b byte) {
	p.word(p.lits, int(b))
	p.text = append(p.text, b)
	p.mark()
}

func (p *packed) write(text string) {
	for _, b := range []byte(text) {
		p.lit(b)
	}
}

func (p *packed) end() { p.word(p.lits, 256) }

// length puts a copy's length by its symbol's index and what is added.
func (p *packed) length(k, more int) {
	p.word(p.lits, 257+k)
	p.Put(more, lengthBits[k])
}

func (p *packed) distance(k, more int) {
	p.word(p.dists, k)
	p.Put(more, distanceBits[k])
}

// copied tells what a copy tells, once it was put.
func (p *packed) copied(length, distance int) {
	for range length {
		p.text = append(p.text, p.text[len(p.text)-distance])
	}
	p.mark()
}

// again puts a copy.
func (p *packed) again(length, distance int) {
	k, j := at(lengthLeast, length), at(distanceLeast, distance)
	p.length(k, length-lengthLeast[k])
	p.distance(j, distance-distanceLeast[j])
	p.copied(length, distance)
}

// at is where the last number that isn't greater stands.
func at(least []int, v int) int {
	for k := len(least) - 1; ; k-- {
		if least[k] <= v {
			return k
		}
	}
}

// counts puts a told block's beginning.
func (p *packed) counts(literals, distances, codes int) {
	p.Put(literals-257, 5)
	p.Put(distances-1, 5)
	p.Put(codes-4, 4)
}

// order is of which symbols the lengths of a told block's code come.
var order = []int{16, 17, 18, 0, 8, 7, 9, 6, 10, 5, 11, 4, 12, 3, 13, 2, 14, 1, 15}

// codeLens puts the lengths of the code by which lengths are told, n of them.
func (p *packed) codeLens(lens map[int]int, n int) *huff.Code {
	row := make([]int, 19)
	for i, sym := range order[:n] {
		p.Put(lens[sym], 3)
		row[order[i]] = lens[sym]
	}
	c, _ := huff.New(row)
	return c
}

// allCodeLens is a code in which each symbol of lengths has a word.
func allCodeLens() map[int]int {
	lens := map[int]int{}
	for sym := range 19 {
		lens[sym] = 4
		if sym > 12 {
			lens[sym] = 5
		}
	}
	return lens
}

// told begins a block that tells the two rows, by plain lengths, or, where the chance is given, by repetitions, too.
func (p *packed) told(last bool, lits, dists []int, rnd *rand.Rand) {
	p.head(last, 2)
	p.counts(len(lits), len(dists), 19)
	c := p.codeLens(allCodeLens(), 19)
	row := append(append([]int(nil), lits...), dists...)
	for i := 0; i < len(row); {
		same := 1
		for i+same < len(row) && row[i+same] == row[i] {
			same++
		}
		i += p.someLens(c, row, i, same, rnd)
	}
	p.lits, p.dists = code(lits), code(dists)
}

// someLens puts the next lengths, of which so many are the same: one, or several by a repetition. How many it has put.
func (p *packed) someLens(c *huff.Code, row []int, i, same int, rnd *rand.Rand) int {
	if rnd == nil || rnd.Intn(4) == 0 {
		p.word(c, row[i])
		return 1
	}
	switch {
	case row[i] == 0 && same >= 11:
		n := 11 + rnd.Intn(min(same, 138)-10)
		p.word(c, 18)
		p.Put(n-11, 7)
		return n
	case row[i] == 0 && same >= 3:
		n := 3 + rnd.Intn(min(same, 10)-2)
		p.word(c, 17)
		p.Put(n-3, 3)
		return n
	case i > 0 && row[i-1] == row[i] && same >= 3:
		n := 3 + rnd.Intn(min(same, 6)-2)
		p.word(c, 16)
		p.Put(n-3, 2)
		return n
	}
	p.word(c, row[i])
	return 1
}

// someRow is random lengths of a code of n symbols, those of some among them.
func someRow(rnd *rand.Rand, n int, with ...int) []int {
	counts := make([]int, n)
	for range rnd.Intn(2 * n) {
		counts[rnd.Intn(n)] += 1 << rnd.Intn(20)
	}
	for _, sym := range with {
		counts[sym]++
	}
	lens, e := huff.Lengths(counts, 15)
	if e != 0 {
		panic(e)
	}
	return lens
}

// some packs random blocks of every kind, the last one among them.
func some(rnd *rand.Rand, blocks int) *packed {
	p := pack()
	for i := range blocks {
		last := i == blocks-1
		switch rnd.Intn(3) {
		case 0:
			b := make([]byte, rnd.Intn(40))
			rnd.Read(b)
			p.head(last, 0)
			p.fill(rnd)
			p.sizes(len(b), 65535-len(b))
			p.raw(b)
		case 1:
			p.fixed(last)
			p.symbols(rnd)
		case 2:
			p.told(last, someRow(rnd, 257+rnd.Intn(30), 256), someRow(rnd, 1+rnd.Intn(30)), rnd)
			p.symbols(rnd)
		}
	}
	p.fill(rnd)
	return p
}

// symbols puts random symbols, and the block's end.
func (p *packed) symbols(rnd *rand.Rand) {
	for range rnd.Intn(60) {
		sym := rnd.Intn(286)
		if _, n := p.lits.Word(sym); n == 0 || sym == 256 {
			continue
		}
		if sym < 256 {
			p.lit(byte(sym))
			continue
		}
		k, j := sym-257, rnd.Intn(30)
		more := rnd.Intn(1 << distanceBits[j])
		if _, n := p.dists.Word(j); n == 0 || distanceLeast[j]+more > len(p.text) {
			continue
		}
		p.againBy(k, rnd.Intn(1<<lengthBits[k]), j, more)
	}
	p.end()
}

// againBy puts a copy by its symbols.
func (p *packed) againBy(k, moreLength, j, more int) {
	p.length(k, moreLength)
	p.distance(j, more)
	p.copied(lengthLeast[k]+moreLength, distanceLeast[j]+more)
}
