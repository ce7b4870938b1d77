// Package octets is layer 2: numbers in bytes.
package octets

import (
	"halftone/api"
)

const (
	byteBits = 8
	mostRead = 4 // bytes of a number that is read
	mostPut  = 8 // bytes of a number that is put
)

// Cursor goes through bytes.
type Cursor struct {
	rest []byte // bytes of its own that weren't read yet; none, once it has failed
	err  api.Errno
}

// Big is a number whose highest byte stands first.
func Big(b []byte, at, n int) (int, api.Errno) {
	part, e := cut(b, at, n)
	return big(part), e
}

// Little is a number whose lowest byte stands first.
func Little(b []byte, at, n int) (int, api.Errno) {
	part, e := cut(b, at, n)
	return little(part), e
}

// PutBig is a number's bytes, the highest first.
func PutBig(n int, v int) []byte {
	n = within(n)
	out := make([]byte, n)
	for i := range n {
		out[n-1-i] = octet(v, i)
	}
	return out
}

// PutLittle is a number's bytes, the lowest first.
func PutLittle(n int, v int) []byte {
	n = within(n)
	out := make([]byte, n)
	for i := range n {
		out[i] = octet(v, i)
	}
	return out
}

// New is a cursor at the beginning.
func New(b []byte) *Cursor {
	return &Cursor{rest: append([]byte(nil), b...)}
}

// Big reads a number.
func (c *Cursor) Big(n int) int { return big(c.number(n)) }

// Little reads a number.
func (c *Cursor) Little(n int) int { return little(c.number(n)) }

// Bytes reads bytes.
func (c *Cursor) Bytes(n int) []byte {
	if n < 0 {
		c.Fail(api.ErrArg)
		return nil
	}
	return append([]byte(nil), c.next(n)...)
}

// Left is how many bytes are left.
func (c *Cursor) Left() int {
	if c == nil {
		return 0
	}
	return len(c.rest)
}

// Err is why it failed.
func (c *Cursor) Err() api.Errno {
	if c == nil {
		return api.ErrArg
	}
	return c.err
}

// Fail makes it fail.
func (c *Cursor) Fail(e api.Errno) {
	if c.Err() != api.OK || e == api.OK {
		return
	}
	c.err = e
	c.rest = nil
}

// number is the bytes of a number that is read next; none, if it fails.
func (c *Cursor) number(n int) []byte {
	if n < 1 || n > mostRead {
		c.Fail(api.ErrArg)
		return nil
	}
	return c.next(n)
}

// next goes behind n bytes, n at least 0, and tells them; none, if it fails. They are the cursor's own: a caller that hands them out copies them.
func (c *Cursor) next(n int) []byte {
	if n > c.Left() {
		c.Fail(api.ErrShort)
		return nil
	}
	if n == 0 {
		return nil
	}
	part := c.rest[:n]
	c.rest = c.rest[n:]
	return part
}

// cut is the n bytes of b from at on, if a number may be made of them.
func cut(b []byte, at, n int) ([]byte, api.Errno) {
	if n < 1 || n > mostRead || at < 0 {
		return nil, api.ErrArg
	}
	// Not at + n, which may be beyond the greatest number.
	if at > len(b)-n {
		return nil, api.ErrShort
	}
	return b[at : at+n], api.OK
}

// big is the number of all bytes, the highest first.
func big(b []byte) int {
	v := uint64(0)
	for _, x := range b {
		v = v<<byteBits | uint64(x)
	}
	return int(v)
}

// little is the number of all bytes, the lowest first.
func little(b []byte) int {
	v := uint64(0)
	for i, x := range b {
		v |= uint64(x) << (byteBits * i)
	}
	return int(v)
}

// octet is the byte i of a number, counted from the lowest.
func octet(v, i int) byte { return byte(uint64(v) >> (byteBits * i)) }

// within is how many bytes are put where n are asked for.
func within(n int) int { return min(max(n, 0), mostPut) }
