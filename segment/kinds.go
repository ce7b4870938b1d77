package segment

import (
	"cmp"
	"math"
	"slices"

	"halftone/api"
	"halftone/octets"
)

const (
	mostIndex = math.MaxInt32
	mostPass  = 8
	mostCode  = math.MaxUint8
)

// kind is what messages have by their kind, behind the number of the kind and the boot.
type kind struct {
	only   func(m api.Msg) api.Msg        // a message's fields that the kind has, all others zero
	bounds func(m api.Msg) bool           // whether these are within their bounds
	put    func(m api.Msg) []byte         // their bytes
	take   func(c *octets.Cursor) api.Msg // these fields off their bytes, within their bounds or not
}

// kinds are all that there are, by their numbers.
func kinds() map[int]kind {
	return map[int]kind{
		api.KindAsk:   ask(),
		api.KindOffer: offer(),
		api.KindData:  data(),
		api.KindAck:   ack(),
		api.KindNo:    no(),
	}
}

func ask() kind {
	return kind{
		only:   func(m api.Msg) api.Msg { return api.Msg{File: m.File, Sum: m.Sum, At: m.At} },
		bounds: func(m api.Msg) bool { return isFile(m.File) && within(m.At, 0, api.MaxFile) },
		put: func(m api.Msg) []byte {
			return slices.Concat(octets.PutBig(one, m.File), octets.PutBig(four, int(m.Sum)), octets.PutBig(four, m.At))
		},
		take: func(c *octets.Cursor) api.Msg {
			return api.Msg{File: c.Big(one), Sum: uint32(c.Big(four)), At: c.Big(four)}
		},
	}
}

func offer() kind {
	return kind{
		only: func(m api.Msg) api.Msg {
			return api.Msg{File: m.File, Sum: m.Sum, Size: m.Size, At: m.At, Body: m.Body}
		},
		bounds: func(m api.Msg) bool {
			return isFile(m.File) && within(m.Size, 1, api.MaxFile) && within(m.At, 0, m.Size) && within(m.Body, 1, api.MaxBody)
		},
		put: func(m api.Msg) []byte {
			name := slices.Concat(octets.PutBig(one, m.File), octets.PutBig(four, int(m.Sum)))
			return slices.Concat(name, octets.PutBig(four, m.Size), octets.PutBig(four, m.At), octets.PutBig(two, m.Body))
		},
		take: func(c *octets.Cursor) api.Msg {
			return api.Msg{File: c.Big(one), Sum: uint32(c.Big(four)), Size: c.Big(four), At: c.Big(four), Body: c.Big(two)}
		},
	}
}

func data() kind {
	return kind{
		only: func(m api.Msg) api.Msg { return api.Msg{Index: m.Index, Pass: m.Pass, Data: m.Data} },
		bounds: func(m api.Msg) bool {
			return isIndex(m.Index) && within(m.Pass, 0, mostPass) && within(len(m.Data), 1, api.MaxBody)
		},
		put: func(m api.Msg) []byte {
			return slices.Concat(octets.PutBig(four, m.Index), octets.PutBig(one, m.Pass), m.Data)
		},
		take: func(c *octets.Cursor) api.Msg {
			return api.Msg{Index: c.Big(four), Pass: c.Big(one), Data: c.Bytes(c.Left())}
		},
	}
}

func ack() kind {
	return kind{
		only: func(m api.Msg) api.Msg { return api.Msg{Index: m.Index, Ranges: m.Ranges} },
		bounds: func(m api.Msg) bool {
			return isIndex(m.Index) && len(m.Ranges) <= api.MaxRanges && inOrder(m.Index, m.Ranges)
		},
		put: func(m api.Msg) []byte {
			parts := [][]byte{octets.PutBig(four, m.Index), octets.PutBig(one, len(m.Ranges))}
			for _, r := range m.Ranges {
				parts = append(parts, octets.PutBig(four, r[0]), octets.PutBig(four, r[1]))
			}
			return slices.Concat(parts...)
		},
		take: func(c *octets.Cursor) api.Msg {
			m := api.Msg{Index: c.Big(four)}
			for range c.Big(one) {
				m.Ranges = append(m.Ranges, [2]int{c.Big(four), c.Big(four)})
			}
			return m
		},
	}
}

func no() kind {
	return kind{
		only:   func(m api.Msg) api.Msg { return api.Msg{File: m.File, Code: m.Code} },
		bounds: func(m api.Msg) bool { return isFile(m.File) && within(m.Code, 0, mostCode) },
		put:    func(m api.Msg) []byte { return slices.Concat(octets.PutBig(one, m.File), octets.PutBig(one, m.Code)) },
		take:   func(c *octets.Cursor) api.Msg { return api.Msg{File: c.Big(one), Code: c.Big(one)} },
	}
}

// mayBe asks whether a message of the kind may be.
func (k kind) mayBe(m api.Msg) bool { return same(m, k.only(m)) && k.bounds(m) }

// same asks whether a message has nothing beside its kind, its boot and what is left of it: what is left is as it was, so the lengths of lists say enough.
func same(m, left api.Msg) bool {
	return m.File == left.File && m.Sum == left.Sum && m.Size == left.Size && m.At == left.At && m.Body == left.Body &&
		m.Index == left.Index && m.Pass == left.Pass && m.Code == left.Code &&
		len(m.Ranges) == len(left.Ranges) && len(m.Data) == len(left.Data)
}

// within asks whether a value is within its bounds.
func within[T cmp.Ordered](v, least, most T) bool { return least <= v && v <= most }

func isFile(n int) bool { return within(n, 0, api.MaxFiles-1) }

func isIndex(n int) bool { return within(n, 0, mostIndex) }

// inOrder asks whether no range is empty, and each is above what is ahead of it, the first one above index, with a gap between.
func inOrder(index int, ranges [][2]int) bool {
	ahead := index
	for _, r := range ranges {
		if !isIndex(r[1]) || ahead >= r[0] || r[0] >= r[1] {
			return false
		}
		ahead = r[1]
	}
	return true
}
