package deflate

import (
	"testing"

	"halftone/bits"
	"halftone/huff"
)

// met is a block as the bits tell it: its kind, whether it says that it is the last one, how many bytes it tells, and how many of its copies reach how far.
type met struct {
	kind   int
	last   bool
	bytes  int
	copies int
	far    int // the greatest distance
	three  int // the greatest distance of a copy of three bytes
}

// The lengths and distances of RFC 1951, written out: the packer's rule is held against them.
var (
	lengthLeast   = []int{3, 4, 5, 6, 7, 8, 9, 10, 11, 13, 15, 17, 19, 23, 27, 31, 35, 43, 51, 59, 67, 83, 99, 115, 131, 163, 195, 227, 258}
	lengthBits    = []int{0, 0, 0, 0, 0, 0, 0, 0, 1, 1, 1, 1, 2, 2, 2, 2, 3, 3, 3, 3, 4, 4, 4, 4, 5, 5, 5, 5, 0}
	distanceLeast = []int{1, 2, 3, 4, 5, 7, 9, 13, 17, 25, 33, 49, 65, 97, 129, 193, 257, 385, 513, 769, 1025, 1537, 2049, 3073, 4097, 6145, 8193, 12289, 16385, 24577}
	distanceBits  = []int{0, 0, 0, 0, 1, 1, 2, 2, 3, 3, 4, 4, 5, 5, 6, 6, 7, 7, 8, 8, 9, 9, 10, 10, 11, 11, 12, 12, 13, 13}
)

// walker goes through packed bytes by means of its own, block by block.
type walker struct {
	t *testing.T
	*bits.Reader
}

func (w walker) take(n int) int {
	w.t.Helper()
	v, ok := w.Take(n)
	if !ok {
		w.t.Fatal("the bits end too early")
	}
	return v
}

func (w walker) next(c *huff.Code) int {
	w.t.Helper()
	sym, e := c.Next(w.Reader)
	if e != 0 {
		w.t.Fatal("no symbol", e)
	}
	return sym
}

func (w walker) code(lens []int) *huff.Code {
	w.t.Helper()
	c, e := huff.New(lens)
	if e != 0 {
		w.t.Fatal("no code", lens)
	}
	return c
}

// walk is the blocks of packed bytes.
func walk(t *testing.T, b []byte) []met {
	t.Helper()
	w := walker{t, bits.New()}
	w.Feed(b)
	var all []met
	for len(all) == 0 || !all[len(all)-1].last {
		m := met{last: w.take(1) == 1, kind: w.take(2)}
		switch m.kind {
		case 0:
			w.Align()
			m.bytes = w.take(16)
			w.take(16)
			w.Bytes(m.bytes)
		case 1:
			w.symbols(&m, w.code(fixedRow()), w.code(flat(32, 5)))
		case 2:
			lits, dists := w.told()
			w.symbols(&m, lits, dists)
		default:
			t.Fatal("a kind that there isn't")
		}
		all = append(all, m)
	}
	return all
}

func fixedRow() []int {
	row := flat(144, 8)
	row = append(row, flat(112, 9)...)
	row = append(row, flat(24, 7)...)
	return append(row, flat(8, 8)...)
}

func flat(n, v int) []int {
	row := make([]int, n)
	for i := range row {
		row[i] = v
	}
	return row
}

func (w walker) told() (lits, dists *huff.Code) {
	w.t.Helper()
	n, far, some := w.take(5)+257, w.take(5)+1, w.take(4)+4
	if n > 286 || far > 30 {
		w.t.Fatal(n, far)
	}
	lens := make([]int, 19)
	for _, sym := range []int{16, 17, 18, 0, 8, 7, 9, 6, 10, 5, 11, 4, 12, 3, 13, 2, 14, 1, 15}[:some] {
		lens[sym] = w.take(3)
	}
	c := w.code(lens)
	var row []int
	for len(row) < n+far {
		switch sym := w.next(c); sym {
		case 16:
			row = append(row, flat(3+w.take(2), row[len(row)-1])...)
		case 17:
			row = append(row, flat(3+w.take(3), 0)...)
		case 18:
			row = append(row, flat(11+w.take(7), 0)...)
		default:
			row = append(row, sym)
		}
	}
	return w.code(row[:n]), w.code(row[n : n+far])
}

func (w walker) symbols(m *met, lits, dists *huff.Code) {
	w.t.Helper()
	for {
		sym := w.next(lits)
		switch {
		case sym == 256:
			return
		case sym < 256:
			m.bytes++
		default:
			length := lengthLeast[sym-257] + w.take(lengthBits[sym-257])
			k := w.next(dists)
			distance := distanceLeast[k] + w.take(distanceBits[k])
			m.bytes += length
			m.copies++
			m.far = max(m.far, distance)
			if length == 3 {
				m.three = max(m.three, distance)
			}
		}
	}
}
