package segment

import (
	"bytes"
	"math/rand"
	"slices"
	"sync"
	"testing"

	"halftone/api"
)

// roomy is a list with spare room behind it, filled with what must stay there.
func roomy[T any](l []T, v T) []T {
	return append(slices.Clone(l), slices.Repeat([]T{v}, 300)...)[:len(l)]
}

// whole is a copy of a list and its spare room.
func whole[T any](l []T) []T { return slices.Clone(l[:cap(l)]) }

// smear writes over a list, and over its spare room.
func smear[T any](l []T, v T) {
	l = l[:cap(l)]
	for i := range l {
		l[i] = v
	}
}

// kept is a copy of a message that shares nothing with it.
func kept(m api.Msg) api.Msg {
	m.Data, m.Ranges = slices.Clone(m.Data), slices.Clone(m.Ranges)
	return m
}

// withRoom is a message whose lists have spare room.
func withRoom(m api.Msg) api.Msg {
	m.Data, m.Ranges = roomy(m.Data, 77), roomy(m.Ranges, [2]int{78, 79})
	return m
}

func smearAll(m api.Msg) {
	smear(m.Data, 99)
	smear(m.Ranges, [2]int{98, 97})
}

// all is a copy of a message's lists, and of their spare room.
func all(m api.Msg) api.Msg {
	m.Data, m.Ranges = whole(m.Data), whole(m.Ranges)
	return m
}

// messages are some of each kind, and some that may not be.
func messages(rnd *rand.Rand) (list []api.Msg) {
	for _, kind := range every {
		list = append(list, plain(kind))
		for range 20 {
			list = append(list, random(rnd, kind))
		}
	}
	both := plain(3)
	both.Ranges = [][2]int{{1, 2}}
	long := plain(3)
	long.Data = some(rnd, 1025)
	touching := plain(4)
	touching.Ranges = [][2]int{{touching.Index + 1, touching.Index + 2}, {touching.Index + 2, touching.Index + 3}}
	return append(list, both, long, touching, api.Msg{Kind: 6, Data: []byte{1}, Ranges: [][2]int{{1, 2}}})
}

// A message stays as it was, its spare room too, and may be written over behind the call; so may its bytes.
func TestP22_1WriteMemory(t *testing.T) {
	for _, m := range messages(rand.New(rand.NewSource(234))) {
		want, wrong := Write(kept(m))
		want = bytes.Clone(want)
		in := withRoom(m)
		was := all(in)
		b, e := Write(in)
		if e != wrong || !bytes.Equal(b, want) || !equal(all(in), was) {
			t.Fatal(m, e, "or it was changed")
		}
		other, _ := Write(in)
		smear(other, 55)
		if !equal(all(in), was) || !bytes.Equal(b, want) {
			t.Fatal(m, "shares memory with an answer, or one answer with another")
		}
		smearAll(in)
		if !bytes.Equal(b, want) {
			t.Fatal(m, "was kept")
		}
		if again, e := Write(m); e != wrong || !bytes.Equal(again, want) {
			t.Fatal(m, "is written in another way", e)
		}
	}
}

// Bytes stay as they were, their spare room too, and may be written over behind the call; so may the message.
func TestP22_1ReadMemory(t *testing.T) {
	var texts [][]byte
	for _, m := range messages(rand.New(rand.NewSource(235))) {
		b := sealed(text(m))
		turned := slices.Clone(b)
		turned[len(b)-1] ^= 1
		texts = append(texts, b, turned, b[:8])
	}
	for _, b := range texts {
		want, wrong := Read(bytes.Clone(b))
		want = kept(want)
		in := roomy(b, 66)
		was := whole(in)
		m, e := Read(in)
		if e != wrong || !equal(m, want) || !bytes.Equal(whole(in), was) {
			t.Fatal(b, e, "or they were changed")
		}
		other, _ := Read(in)
		smearAll(other)
		if !bytes.Equal(whole(in), was) || !equal(m, want) {
			t.Fatal(b, "share memory with an answer, or one answer with another")
		}
		smear(in, 44)
		if !equal(m, want) {
			t.Fatal(b, "were kept")
		}
		if again, e := Read(b); e != wrong || !equal(again, want) {
			t.Fatal(b, "are read in another way", e)
		}
	}
}

// Calls don't depend on one another, side by side neither.
func TestP22_1SideBySide(t *testing.T) {
	rnd := rand.New(rand.NewSource(236))
	var wait sync.WaitGroup
	for i := range 20 {
		m := random(rnd, every[i%5])
		want := sealed(text(m))
		wait.Add(1)
		go func() {
			defer wait.Done()
			for range 50 {
				b, e := Write(m)
				got, wrong := Read(want)
				if e != api.OK || wrong != api.OK || !bytes.Equal(b, want) || !equal(got, m) {
					t.Error(m, e, wrong)
				}
			}
		}()
	}
	wait.Wait()
}
