package lzw

import (
	"halftone/api"
	"halftone/bits"
)

// packer writes codes.
type packer struct {
	least   int
	out     *bits.Writer
	codes   map[text]int // of the texts behind end
	written int          // codes behind the last clear
}

// Pack writes codes.
func Pack(b []byte, least, late int) ([]byte, api.Errno) {
	if !isLeast(least) || late < 0 || !areRoots(b, least) {
		return nil, api.ErrArg
	}
	p := &packer{least: least, out: bits.NewWriter(), codes: map[text]int{}}
	p.begin()
	for len(b) > 0 {
		code, size := p.longest(b)
		p.put(code)
		p.written++
		b = b[size:]
		if len(b) == 0 {
			break
		}
		p.learn(text{code, b[0]})
		if p.written-p.room() == late {
			p.begin()
		}
	}
	p.put(endCode(least))
	return p.out.Out(), api.OK
}

func areRoots(b []byte, least int) bool {
	for _, v := range b {
		if int(v) >= clearCode(least) {
			return false
		}
	}
	return true
}

// begin writes clear: all begins anew behind it.
func (p *packer) begin() {
	p.put(clearCode(p.least))
	clear(p.codes)
	p.written = 0
}

// put writes a code as wide as it is read: the reader learns a text by every code but the first one, so it is one behind.
func (p *packer) put(code int) {
	count := furtherCode(p.least) + max(p.written-1, 0)
	p.out.Put(code, width(p.least, count))
}

// room is how many texts the table takes in. One comes by every code, as long as there is room: so many codes fill it.
func (p *packer) room() int { return mostCodes - furtherCode(p.least) }

func (p *packer) learn(t text) {
	if len(p.codes) < p.room() {
		p.codes[t] = furtherCode(p.least) + len(p.codes)
	}
}

// longest is the code of the longest text with which b begins, and how many bytes that has.
func (p *packer) longest(b []byte) (code, size int) {
	code = int(b[0])
	for size = 1; size < len(b); size++ {
		next, ok := p.codes[text{code, b[size]}]
		if !ok {
			break
		}
		code = next
	}
	return code, size
}
