package receiver

import (
	"bytes"
	"slices"
	"testing"

	"halftone/api"
)

const greatestN = 1048577

// with is a receiver of arguments that may be.
func with(t *testing.T, n, window int) *Receiver {
	t.Helper()
	r, e := New(n, window)
	if e != api.OK || r == nil {
		t.Fatal("New", n, window, r, e)
	}
	return r
}

// equal asks whether two rows of texts are the same.
func equal(a, b [][]byte) bool { return slices.EqualFunc(a, b, bytes.Equal) }

// texts are texts as bytes.
func texts(list ...string) (rows [][]byte) {
	for _, s := range list {
		rows = append(rows, []byte(s))
	}
	return rows
}

// takes holds that an item comes, and what is told then.
func takes(t *testing.T, r *Receiver, i int, data string, want ...string) {
	t.Helper()
	if got, ok := r.Take(i, []byte(data)); !ok || !equal(got, texts(want...)) {
		t.Fatalf("item %d: %q %v, not %q", i, got, ok, want)
	}
}

// refuses holds that an item may not come, and that nothing comes of it.
func refuses(t *testing.T, r *Receiver, items ...int) {
	t.Helper()
	next, held, ranges, done := r.Next(), r.Held(), r.Ranges(), r.Done()
	for _, i := range items {
		if got, ok := r.Take(i, []byte("no")); ok || len(got) != 0 {
			t.Fatalf("item %d: %q %v", i, got, ok)
		}
	}
	stands(t, r, next, held, done, ranges...)
}

// stands holds what the other calls answer.
func stands(t *testing.T, r *Receiver, next, held int, done bool, ranges ...[2]int) {
	t.Helper()
	if r.Next() != next || r.Held() != held || r.Done() != done || !slices.Equal(r.Ranges(), ranges) {
		t.Fatal(r.Next(), r.Held(), r.Done(), r.Ranges(), "not", next, held, done, ranges)
	}
}
