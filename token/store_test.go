package token

import (
	"math/rand"
	"testing"

	"halftone/api"
)

// TestP25_1New holds that a new store has nothing, kept or under way, and that nothing comes of nothing.
func TestP25_1New(t *testing.T) {
	s := New()
	if s == nil {
		t.Fatal("no store")
	}
	stands(t, s, "", false)
	for _, act := range ends {
		act(s)
		stands(t, s, "", false)
	}
}

// ends are the calls by which nothing is under way any more.
var ends = []func(*Store){
	func(s *Store) { s.Settle() },
	func(s *Store) { s.Crash(true) },
	func(s *Store) { s.Crash(false) },
}

// TestP25_1Put holds that what is put isn't kept yet, and that nothing else is taken meanwhile.
func TestP25_1Put(t *testing.T) {
	s := New()
	puts(t, s, "x")
	stands(t, s, "", true)
	isBusy(t, s, "y")
	isBusy(t, s, "")
	isBusy(t, s, "x")
	stands(t, s, "", true)
	s.Settle()
	stands(t, s, "x", false)
	puts(t, s, "y")
	stands(t, s, "x", true)
	isBusy(t, s, "z")
	stands(t, s, "x", true)
	s.Settle()
	stands(t, s, "y", false)
}

// TestP25_1Ends holds how each call ends what is under way, behind something kept and behind nothing.
func TestP25_1Ends(t *testing.T) {
	for k, act := range ends {
		for _, old := range []string{"", "old"} {
			s := New()
			if old != "" {
				puts(t, s, old)
				s.Settle()
			}
			puts(t, s, "new")
			isBusy(t, s, "other")
			act(s)
			want := "new"
			if k == 2 {
				want = old
			}
			stands(t, s, want, false)
			for _, again := range ends {
				again(s)
				stands(t, s, want, false)
			}
			puts(t, s, "more")
			stands(t, s, want, true)
			s.Settle()
			stands(t, s, "more", false)
		}
	}
}

// TestP25_1NoBytes holds that no bytes are under way as any others, and are kept in the others' place.
func TestP25_1NoBytes(t *testing.T) {
	for _, none := range [][]byte{nil, {}} {
		for k, act := range ends {
			s := New()
			puts(t, s, "old")
			s.Settle()
			if e := s.Put(none); e != api.OK {
				t.Fatal(e)
			}
			stands(t, s, "old", true)
			isBusy(t, s, "")
			isBusy(t, s, "x")
			act(s)
			if k == 2 {
				stands(t, s, "old", false)
			} else {
				stands(t, s, "", false)
			}
		}
	}
}

// TestP25_1Nil holds what a nil store answers.
func TestP25_1Nil(t *testing.T) {
	var s *Store
	for _, b := range [][]byte{nil, {}, []byte("x")} {
		if e := s.Put(b); e != api.ErrArg {
			t.Fatal(e)
		}
		stands(t, s, "", false)
	}
	for _, act := range ends {
		act(s)
		stands(t, s, "", false)
	}
}

// slowStore has all that was ever put, by the chapter's words.
type slowStore struct {
	kept, way []string
}

func (s *slowStore) put(b string) api.Errno {
	if len(s.way) > 0 {
		return api.ErrBusy
	}
	s.way = []string{b}
	return api.OK
}

func (s *slowStore) end(keep bool) {
	if keep {
		s.kept = append(s.kept, s.way...)
	}
	s.way = nil
}

func (s *slowStore) get() string {
	if len(s.kept) == 0 {
		return ""
	}
	return s.kept[len(s.kept)-1]
}

// TestP25_1Rows holds drawn rows of calls against the chapter's words.
func TestP25_1Rows(t *testing.T) {
	rnd := rand.New(rand.NewSource(259))
	for range 2000 {
		s, w := New(), &slowStore{}
		for range 30 {
			switch rnd.Intn(6) {
			case 0:
				s.Settle()
				w.end(true)
			case 1:
				s.Crash(true)
				w.end(true)
			case 2:
				s.Crash(false)
				w.end(false)
			default:
				b := some(rnd, rnd.Intn(5))
				if e, want := s.Put(b), w.put(string(b)); e != want {
					t.Fatal(e, want)
				}
			}
			stands(t, s, w.get(), len(w.way) > 0)
		}
	}
}

// TestP25_3OldOrNew holds that behind a crash a store has what was put last, or what it had kept ahead of that, whole, and that keep says which; of tokens' bytes, which are read again.
func TestP25_3OldOrNew(t *testing.T) {
	rnd := rand.New(rand.NewSource(260))
	for range 500 {
		s := New()
		old := []byte{}
		for range 10 {
			next := must(Write(random(rnd)))
			if e := s.Put(next); e != api.OK {
				t.Fatal(e)
			}
			stands(t, s, string(old), true)
			keep := rnd.Intn(2) == 0
			s.Crash(keep)
			if keep {
				old = next
			}
			stands(t, s, string(old), false)
			if len(old) > 0 {
				must(Read(s.Get()))
			}
		}
	}
}

// TestP25_3Long holds it for the longest token.
func TestP25_3Long(t *testing.T) {
	rnd := rand.New(rand.NewSource(261))
	s := New()
	a := must(Write(api.Token{File: 1, Data: some(rnd, mostData)}))
	b := must(Write(api.Token{File: 2, Data: some(rnd, mostData)}))
	puts(t, s, string(a))
	s.Crash(true)
	puts(t, s, string(b))
	s.Crash(false)
	stands(t, s, string(a), false)
	puts(t, s, string(b))
	stands(t, s, string(a), true)
	s.Crash(true)
	stands(t, s, string(b), false)
}
