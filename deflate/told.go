package deflate

// Of the counts at the beginning of a told block: their bits, and what each of them counts from.
const (
	countBits     = 5
	codeCountBits = 4
	leastLiterals = 257
	leastFar      = 1
	leastCodeLens = 4
)

// Of the code by which the lengths are told.
const (
	codeLenBits = 3
	codeLenMost = 7
	codeSymbols = 19
	lastAgain   = 16
	fewNoughts  = 17
	manyNoughts = 18
)

// codeOrder is of which symbol the lengths of that code come.
var codeOrder = [codeSymbols]int{16, 17, 18, 0, 8, 7, 9, 6, 10, 5, 11, 4, 12, 3, 13, 2, 14, 1, 15}

// trimmed is lengths without the noughts at their end, as far as so many are left.
func trimmed(lens []int, least int) []int {
	for len(lens) > least && lens[len(lens)-1] == 0 {
		lens = lens[:len(lens)-1]
	}
	return lens
}

// tellLengths is how both codes' lengths are told.
func tellLengths(lits, dists []int) []piece {
	row := append(append([]int(nil), lits...), dists...)
	runs := inRuns(row)
	counts := make([]int, codeSymbols)
	for _, r := range runs {
		counts[r.sym]++
	}
	lens := best(counts, codeLenMost)
	words := code(lens)
	inOrder := make([]int, codeSymbols)
	for i := range inOrder {
		inOrder[i] = lens[codeOrder[i]]
	}
	inOrder = trimmed(inOrder, leastCodeLens)

	head := []piece{
		{len(lits) - leastLiterals, countBits},
		{len(dists) - leastFar, countBits},
		{len(inOrder) - leastCodeLens, codeCountBits},
	}
	for _, n := range inOrder {
		head = append(head, piece{n, codeLenBits})
	}
	for _, r := range runs {
		v, n := words.Word(r.sym)
		head = append(head, piece{v, n}, r.more)
	}
	return head
}

// inRuns is lengths as symbols: those that come again and again in one.
func inRuns(lens []int) []symbol {
	var runs []symbol
	for len(lens) > 0 {
		same := 1
		for same < len(lens) && lens[same] == lens[0] {
			same++
		}
		runs = append(runs, run(lens[0], same)...)
		lens = lens[same:]
	}
	return runs
}

// run is so many times one length.
func run(length, times int) []symbol {
	var runs []symbol
	if length != 0 {
		// What comes again is the length ahead, which has to be told first.
		runs = append(runs, symbol{sym: length})
		times--
	}
	for times > 0 {
		s, n := longestRun(length, times)
		runs = append(runs, s)
		times -= n
	}
	return runs
}

// longestRun is a symbol for as many of those lengths as one can tell, and how many they are.
func longestRun(length, times int) (symbol, int) {
	switch {
	case length == 0 && times >= 11:
		n := min(times, 138)
		return symbol{manyNoughts, piece{n - 11, 7}}, n
	case length == 0 && times >= 3:
		n := min(times, 10)
		return symbol{fewNoughts, piece{n - 3, 3}}, n
	case length != 0 && times >= 3:
		n := min(times, 6)
		return symbol{lastAgain, piece{n - 3, 2}}, n
	}
	return symbol{sym: length}, 1
}
