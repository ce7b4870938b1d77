// Package bits is layer 1: rows of bits, the lowest of a byte first.
package bits

const (
	byteBits = 8
	mostBits = 32
)

// Reader has bytes of which some bits are gone.
type Reader struct {
	held []byte // bytes of which a bit at least is left
	gone int    // bits of the first held byte that are gone: 0 to 7
}

// Writer has bits.
type Writer struct {
	held  []byte // the bits, the last byte filled up with noughts
	count int    // how many bits were put
}

// New is a reader without bits.
func New() *Reader { return &Reader{} }

// Feed puts bytes behind.
func (r *Reader) Feed(b []byte) {
	if r == nil {
		return
	}
	r.held = append(r.held, b...)
}

// Have is how many bits there are.
func (r *Reader) Have() int {
	if r == nil {
		return 0
	}
	return len(r.held)*byteBits - r.gone
}

// Look is a bit further on.
func (r *Reader) Look(i int) int {
	if i < 0 || i >= r.Have() {
		return -1
	}
	at := r.gone + i
	return int(r.held[at/byteBits] >> (at % byteBits) & 1)
}

// Take takes a number of n bits.
func (r *Reader) Take(n int) (int, bool) {
	if r == nil || n < 0 || n > mostBits || n > r.Have() {
		return 0, false
	}
	v := uint64(0)
	for got := 0; got < n; {
		part := min(n-got, byteBits-r.gone)
		v |= lowest(uint64(r.held[0])>>r.gone, part) << got
		got += part
		r.pass(part)
	}
	return int(v), true
}

// Align goes on to a byte's beginning.
func (r *Reader) Align() int {
	if r == nil || r.gone == 0 {
		return 0
	}
	n := byteBits - r.gone
	r.pass(n)
	return n
}

// Bytes takes whole bytes.
func (r *Reader) Bytes(n int) []byte {
	if r == nil || n < 1 || r.gone != 0 {
		return nil
	}
	n = min(n, len(r.held))
	out := append([]byte(nil), r.held[:n]...)
	r.held = r.held[n:]
	return out
}

// pass lets the next n bits go; the caller has seen that they are there.
func (r *Reader) pass(n int) {
	r.gone += n
	r.held = r.held[r.gone/byteBits:]
	r.gone %= byteBits
}

// NewWriter is a writer without bits.
func NewWriter() *Writer { return &Writer{} }

// Put puts the lowest n bits of a number.
func (w *Writer) Put(v, n int) {
	if w == nil {
		return
	}
	// Without a sign, so that a shift brings noughts in from above.
	rest := uint64(v)
	for left := min(n, mostBits); left > 0; {
		used := w.count % byteBits
		if used == 0 {
			w.held = append(w.held, 0)
		}
		part := min(left, byteBits-used)
		w.held[len(w.held)-1] |= byte(lowest(rest, part) << used)
		rest >>= part
		left -= part
		w.count += part
	}
}

// Align fills the last byte up.
func (w *Writer) Align() {
	if w == nil {
		return
	}
	w.count = len(w.held) * byteBits
}

// Len is how many bits there are.
func (w *Writer) Len() int {
	if w == nil {
		return 0
	}
	return w.count
}

// Out is the bytes.
func (w *Writer) Out() []byte {
	if w == nil {
		return nil
	}
	return append([]byte(nil), w.held...)
}

// lowest is the number of the lowest n bits of v.
func lowest(v uint64, n int) uint64 { return v & (1<<n - 1) }
