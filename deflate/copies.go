package deflate

import (
	"iter"

	"halftone/api"
)

const (
	shortestCopy = 3
	longestCopy  = 258
)

// A copy is looked for at all places that are near, as far as a repetition is promised to be found, but at so many others alone: a long text of few letters has very many of them.
const (
	near    = 4096
	mostFar = 512
)

const nowhere = -1

// step is a literal, if the distance is 0, else a copy.
type step struct {
	literal          byte
	length, distance int
}

// places are those of a text that have been gone past, by the three bytes that begin there.
type places struct {
	text  []byte
	last  map[[shortestCopy]byte]int // where they stood last
	ahead []int                      // of each place the one ahead of it with the same three bytes
}

func newPlaces(text []byte) *places {
	return &places{text: text, last: map[[shortestCopy]byte]int{}}
}

// key is the three bytes at a place; the caller has seen that they are there.
func (p *places) key(at int) [shortestCopy]byte {
	return [shortestCopy]byte{p.text[at], p.text[at+1], p.text[at+2]}
}

// pass goes past the next place.
func (p *places) pass(at int) {
	if at+shortestCopy > len(p.text) {
		return
	}
	key := p.key(at)
	before, ok := p.last[key]
	if !ok {
		before = nowhere
	}
	p.ahead = append(p.ahead, before)
	p.last[key] = at
}

// before tells the places, the last one first, at which the three bytes stood that stand at this one, as far as a copy reaches.
func (p *places) before(at int) iter.Seq[int] {
	return func(yield func(int) bool) {
		place, ok := p.last[p.key(at)]
		for far := 0; ok && far < mostFar && at-place <= api.Reach; {
			if !yield(place) {
				return
			}
			if at-place > near {
				far++
			}
			place = p.ahead[place]
			ok = place != nowhere
		}
	}
}

// longest is the longest copy from a place on that ends at end at the latest, and the nearest of those; of length 0, if there is none.
func (p *places) longest(at, end int) (length, distance int) {
	most := min(longestCopy, end-at)
	if most < shortestCopy {
		return 0, 0
	}
places:
	for place := range p.before(at) {
		// It has to be longer than the longest one yet. Most aren't, and show it at their end.
		for i := length; i >= 0; i-- {
			if p.text[place+i] != p.text[at+i] {
				continue places
			}
		}
		distance = at - place
		for p.text[place+length] == p.text[at+length] {
			length++
			if length == most {
				break places
			}
		}
	}
	return length, distance
}

// steps go from a place to another one.
func (p *places) steps(at, end int) []step {
	var row []step
	for at < end {
		length, distance := p.longest(at, end)
		// A copy of three bytes from afar takes more bits than they do.
		if length < shortestCopy || length == shortestCopy && distance > near {
			length, distance = 1, 0
		}
		row = append(row, step{p.text[at], length, distance})
		for range length {
			p.pass(at)
			at++
		}
	}
	return row
}
