package lzw

import (
	"bytes"
	"strconv"

	"halftone/api"
	"halftone/bits"
)

// slowTable is a table as the chapter has it: every code's text written out (clear's and end's are empty).
type slowTable struct {
	least int
	texts []string
	ahead string // the text of the code ahead; "": the next one is a first one
}

func newSlowTable(least int) *slowTable {
	s := &slowTable{least: least}
	s.empty()
	return s
}

func (s *slowTable) empty() {
	s.texts, s.ahead = nil, ""
	for i := range 1 << s.least {
		s.texts = append(s.texts, string([]byte{byte(i)}))
	}
	s.texts = append(s.texts, "", "")
}

// width is how many digits the number of codes has.
func (s *slowTable) width() int {
	return min(max(len(strconv.FormatInt(int64(len(s.texts)), 2)), s.least+1), 12)
}

// read is what a code tells, neither clear nor end; false: it may not stand there.
func (s *slowTable) read(code int) (string, bool) {
	if s.ahead == "" {
		if code >= 1<<s.least {
			return "", false
		}
		s.ahead = s.texts[code]
		return s.ahead, true
	}
	var told string
	switch {
	case code < len(s.texts):
		told = s.texts[code]
	case code == len(s.texts) && code < 4096:
		told = s.ahead + s.ahead[:1]
	default:
		return "", false
	}
	if len(s.texts) < 4096 {
		s.texts = append(s.texts, s.ahead+told[:1])
	}
	s.ahead = told
	return told, true
}

// result is all that a decoder says.
type result struct {
	told []byte
	e    api.Errno
	done bool
	rest []byte
}

func (r result) same(o result) bool {
	return bytes.Equal(r.told, o.told) && r.e == o.e && r.done == o.done && bytes.Equal(r.rest, o.rest)
}

func bitAt(b []byte, i int) int { return int(b[i/8]>>(i%8)) & 1 }

// slow reads bytes that are all there.
func slow(b []byte, least, limit int) result {
	if least < 2 || least > 8 {
		return result{e: api.ErrArg}
	}
	var r result
	s := newSlowTable(least)
	for at := 0; ; {
		w := s.width()
		if at+w > 8*len(b) {
			return r
		}
		code := 0
		for i := range w {
			code |= bitAt(b, at+i) << i
		}
		at += w
		if code == 1<<least {
			s.empty()
			continue
		}
		if code == 1<<least+1 {
			r.done, r.rest = true, b[(at+7)/8:]
			return r
		}
		told, ok := s.read(code)
		if !ok {
			r.e = api.ErrSymbol
			return r
		}
		r.told = append(r.told, told...)
		if len(r.told) > max(limit, 0) {
			r.told, r.e = r.told[:max(limit, 0)], api.ErrLong
			return r
		}
	}
}

// coded writes codes, each as wide as it is read, even those that may not stand where they do.
func coded(least int, codes ...int) *bits.Writer {
	w := bits.NewWriter()
	s := newSlowTable(least)
	for _, code := range codes {
		w.Put(code, s.width())
		switch code {
		case 1 << least:
			s.empty()
		case 1<<least + 1:
		default:
			s.read(code)
		}
	}
	return w
}

// slowCodes are those that the chapter says are written for a text.
func slowCodes(b []byte, least, late int) []int {
	roots := 1 << least
	var table map[string]int
	var codes []int
	begin := func() {
		codes = append(codes, roots)
		table = map[string]int{}
		for i := range roots {
			table[string([]byte{byte(i)})] = i
		}
	}
	begin()
	more := 0 // codes that were written while the table was full
	for len(b) > 0 {
		// Every beginning of a text in the table is in the table.
		n := 1
		for n < len(b) {
			if _, ok := table[string(b[:n+1])]; !ok {
				break
			}
			n++
		}
		full := len(table)+2 == 4096
		if full && more == late {
			begin()
			more = 0
			continue
		}
		if full {
			more++
		}
		codes = append(codes, table[string(b[:n])])
		if n < len(b) && !full {
			table[string(b[:n+1])] = len(table) + 2
		}
		b = b[n:]
	}
	return append(codes, roots+1)
}

// slowPack is the bytes of those codes.
func slowPack(b []byte, least, late int) []byte {
	return coded(least, slowCodes(b, least, late)...).Out()
}

// codesOf takes codes apart again, up to end, with the widths by which they are read.
func codesOf(b []byte, least int) (codes, widths []int) {
	in := bits.New()
	in.Feed(b)
	s := newSlowTable(least)
	for {
		w := s.width()
		code, ok := in.Take(w)
		if !ok {
			return codes, widths
		}
		codes, widths = append(codes, code), append(widths, w)
		switch code {
		case 1 << least:
			s.empty()
		case 1<<least + 1:
			return codes, widths
		default:
			if _, ok := s.read(code); !ok {
				return codes, widths
			}
		}
	}
}
