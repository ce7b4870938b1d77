package token

import (
	"slices"

	"halftone/api"
)

// Store is what is kept, and what is under way.
type Store struct {
	kept []byte
	coming
}

// coming is what is under way. No bytes may be under way too, so that something is has to be said beside them.
type coming struct {
	bytes []byte
	some  bool
}

// New is a store in which nothing is kept.
func New() *Store { return &Store{} }

// Busy asks whether something is under way.
func (s *Store) Busy() bool { return s != nil && s.some }

// Put begins to keep bytes.
func (s *Store) Put(b []byte) api.Errno {
	if s == nil {
		return api.ErrArg
	}
	if s.Busy() {
		return api.ErrBusy
	}
	s.begin(b)
	return api.OK
}

// Settle keeps what is under way.
func (s *Store) Settle() { s.Crash(true) }

// Crash keeps what is under way, or forgets it.
func (s *Store) Crash(keep bool) {
	if !s.Busy() {
		return
	}
	if b := s.end(); keep {
		s.kept = b
	}
}

// Get is what is kept.
func (s *Store) Get() []byte {
	if s == nil {
		return nil
	}
	return slices.Clone(s.kept)
}

// begin takes bytes of its own under way.
func (c *coming) begin(b []byte) { *c = coming{bytes: slices.Clone(b), some: true} }

// end tells what was under way; nothing is then.
func (c *coming) end() []byte {
	b := c.bytes
	*c = coming{}
	return b
}
