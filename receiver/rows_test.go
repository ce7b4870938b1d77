package receiver

import (
	"math/rand"
	"strconv"
	"testing"
)

// TestP24_2Order holds over drawn rows that items are told in their order, each once, with the bytes with which it came first.
func TestP24_2Order(t *testing.T) {
	rnd := rand.New(rand.NewSource(242))
	for range 500 {
		n, window := 1+rnd.Intn(80), 1+rnd.Intn(64)
		r := with(t, n, window)
		first := map[int]string{}
		told := 0
		for step := 0; !r.Done(); step++ {
			if step > 1000*(n+1)*window {
				t.Fatal(n, window, "isn't done")
			}
			i := r.Next() - 3 + rnd.Intn(window+6)
			data := strconv.Itoa(step)
			list, ok := r.Take(i, []byte(data))
			if _, came := first[i]; ok && came {
				t.Fatal("item", i, "comes twice")
			}
			if ok {
				first[i] = data
			}
			for _, b := range list {
				if s, came := first[told]; !came || string(b) != s {
					t.Fatalf("item %d is told as %q, not %q", told, b, s)
				}
				told++
			}
			if told != r.Next() {
				t.Fatal(told, "are told, Next is", r.Next())
			}
		}
		if told != n {
			t.Fatal(told, "of", n)
		}
	}
}

// TestP24_2Shuffled holds that all come in any order, when each is handed in again and again until it is taken.
func TestP24_2Shuffled(t *testing.T) {
	rnd := rand.New(rand.NewSource(243))
	for range 300 {
		n, window := rnd.Intn(64), 1+rnd.Intn(64)
		r := with(t, n, window)
		var got, want [][]byte
		for i := range n {
			want = append(want, []byte(strconv.Itoa(i)))
		}
		for rounds := 0; !r.Done(); rounds++ {
			if rounds > n {
				t.Fatal(n, window, "isn't done")
			}
			for _, i := range rnd.Perm(n) {
				list, _ := r.Take(i, want[i])
				got = append(got, list...)
			}
		}
		if !equal(got, want) {
			t.Fatalf("%q", got)
		}
	}
}

// TestP24_3Held holds that fewer than the window are held, whatever comes, and that so many may be.
func TestP24_3Held(t *testing.T) {
	rnd := rand.New(rand.NewSource(244))
	for window := 1; window <= 64; window++ {
		r := with(t, 200, window)
		for i := range 300 {
			if i-100 != 0 {
				r.Take(i-100, nil)
			}
		}
		stands(t, r, 0, window-1, false, ahead(window)...)
		for range 400 {
			r.Take(r.Next()-1+rnd.Intn(window+2), nil)
			if r.Held() >= window || r.Held() < 0 {
				t.Fatal(window, r.Held())
			}
		}
	}
}

// ahead is the range of a full window without its first item.
func ahead(window int) [][2]int {
	if window == 1 {
		return nil
	}
	return [][2]int{{1, window}}
}
