package receiver

import (
	"bytes"
	"slices"
	"strconv"
	"sync"
	"testing"

	"halftone/api"
)

// TestP24_1HandedIn holds that what is handed in stays as it was, its spare room too, and may be written over behind the call.
func TestP24_1HandedIn(t *testing.T) {
	room := []byte("abcdefgh")
	r := with(t, 6, 6)
	if _, ok := r.Take(2, room[2:4]); !ok || string(room) != "abcdefgh" {
		t.Fatal(ok, room)
	}
	copy(room, "--------")
	takes(t, r, 1, "b")
	copy(room, "12345678")
	list, ok := r.Take(0, room[:1])
	if !ok || string(room) != "12345678" {
		t.Fatal(ok, room)
	}
	copy(room, "--------")
	if !equal(list, texts("1", "b", "cd")) {
		t.Fatalf("%q", list)
	}
	stands(t, r, 3, 0, false)
}

// TestP24_1Answers holds that what was told may be written over, with its spare room: nothing that is held changes, and nothing else that was told.
func TestP24_1Answers(t *testing.T) {
	r := with(t, 9, 9)
	takes(t, r, 1, "b")
	takes(t, r, 2, "c")
	takes(t, r, 4, "e")
	list, _ := r.Take(0, []byte("a"))
	for k := range list {
		kept := [][]byte{}
		for m, b := range list {
			if m != k {
				kept = append(kept, slices.Clone(b))
			}
		}
		smear(list[k])
		if !equal(slices.Delete(slices.Clone(list), k, k+1), kept) {
			t.Fatalf("%q", list)
		}
	}
	for k := range list[:cap(list)] {
		list[:cap(list)][k] = []byte("?")
	}
	ranges := r.Ranges()
	for k := range ranges[:cap(ranges)] {
		ranges[:cap(ranges)][k] = [2]int{7, 8}
	}
	stands(t, r, 3, 1, false, [2]int{4, 5})
	takes(t, r, 3, "d", "d", "e")
	if ranges[0] != [2]int{7, 8} || string(list[0]) != "?" {
		t.Fatal(ranges, list)
	}
}

// smear writes over bytes and their spare room.
func smear(b []byte) {
	for k := range b[:cap(b)] {
		b[:cap(b)][k] = '?'
	}
}

// TestP24_1Apart holds that receivers don't depend on one another, side by side too.
func TestP24_1Apart(t *testing.T) {
	var all sync.WaitGroup
	for k := range 8 {
		all.Go(func() {
			r, e := New(100, 3+k)
			if e != api.OK {
				t.Error(e)
				return
			}
			var text []byte
			for i := 0; i < 100; i += 2 {
				a, _ := r.Take(i+1, []byte(strconv.Itoa(k)))
				b, _ := r.Take(i, []byte("."))
				text = append(text, slices.Concat(slices.Concat(a, b)...)...)
			}
			if want := bytes.Repeat([]byte("."+strconv.Itoa(k)), 50); !bytes.Equal(text, want) {
				t.Errorf("%d: %q", k, text)
			}
		})
	}
	all.Wait()
}
