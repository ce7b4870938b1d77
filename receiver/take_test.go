package receiver

import (
	"math"
	"testing"
)

// TestP24_1Order holds that items that come in order are told at once, with a window of one too.
func TestP24_1Order(t *testing.T) {
	for _, window := range []int{1, 2, 64} {
		r := with(t, 4, window)
		for i, s := range []string{"a", "bc", "", "d"} {
			takes(t, r, i, s, s)
			stands(t, r, i+1, 0, i == 3)
			refuses(t, r, i)
		}
	}
}

// TestP24_1Turned holds that items that come turned round are held until the first one comes.
func TestP24_1Turned(t *testing.T) {
	r := with(t, 5, 5)
	takes(t, r, 4, "e")
	stands(t, r, 0, 1, false, [2]int{4, 5})
	takes(t, r, 3, "d")
	stands(t, r, 0, 2, false, [2]int{3, 5})
	takes(t, r, 2, "c")
	takes(t, r, 1, "b")
	stands(t, r, 0, 4, false, [2]int{1, 5})
	refuses(t, r, 1, 2, 3, 4)
	takes(t, r, 0, "a", "a", "b", "c", "d", "e")
	stands(t, r, 5, 0, true)
}

// TestP24_1Gap holds that only what stands behind Next without a gap is told, and the rest stays held.
func TestP24_1Gap(t *testing.T) {
	r := with(t, 9, 8)
	takes(t, r, 1, "b")
	takes(t, r, 3, "d")
	takes(t, r, 4, "e")
	takes(t, r, 6, "g")
	stands(t, r, 0, 4, false, [2]int{1, 2}, [2]int{3, 5}, [2]int{6, 7})
	takes(t, r, 0, "a", "a", "b")
	stands(t, r, 2, 3, false, [2]int{3, 5}, [2]int{6, 7})
	takes(t, r, 2, "c", "c", "d", "e")
	stands(t, r, 5, 1, false, [2]int{6, 7})
	takes(t, r, 5, "f", "f", "g")
	stands(t, r, 7, 0, false)
}

// TestP24_1Edges holds which items may come: from Next on, below Next + window, below n.
func TestP24_1Edges(t *testing.T) {
	r := with(t, 10, 4)
	refuses(t, r, -1, 4, 5, 9, 10, math.MinInt, math.MaxInt)
	takes(t, r, 3, "d")
	takes(t, r, 0, "a", "a")
	refuses(t, r, 0, 3, 5, -1)
	takes(t, r, 4, "e")
	takes(t, r, 1, "b", "b")
	takes(t, r, 2, "c", "c", "d", "e")
	stands(t, r, 5, 0, false)
	refuses(t, r, 4, 9, 10)
	takes(t, r, 8, "i")
	takes(t, r, 5, "f", "f")
	takes(t, r, 9, "j")
	refuses(t, r, 5, 8, 9, 10, 11)
	takes(t, r, 7, "h")
	takes(t, r, 6, "g", "g", "h", "i", "j")
	stands(t, r, 10, 0, true)
	refuses(t, r, 9, 10, 11, 13, math.MaxInt, math.MinInt)
}

// TestP24_1Few holds that a window greater than what there is takes all there is, and no more.
func TestP24_1Few(t *testing.T) {
	r := with(t, 2, 64)
	refuses(t, r, 2, 3, 63, 64)
	takes(t, r, 1, "b")
	takes(t, r, 0, "a", "a", "b")
	stands(t, r, 2, 0, true)
}

// TestP24_1NoBytes holds that an item of no bytes has come like any other.
func TestP24_1NoBytes(t *testing.T) {
	r := with(t, 4, 4)
	if l, ok := r.Take(2, nil); !ok || len(l) != 0 {
		t.Fatal(l, ok)
	}
	takes(t, r, 1, "")
	stands(t, r, 0, 2, false, [2]int{1, 3})
	refuses(t, r, 1, 2)
	takes(t, r, 0, "", "", "", "")
	stands(t, r, 3, 0, false)
	if l, ok := r.Take(3, nil); !ok || len(l) != 1 || len(l[0]) != 0 {
		t.Fatal(l, ok)
	}
	stands(t, r, 4, 0, true)
}

// TestP24_1Ranges holds the ranges of none, of as many as are told, and of more: the lowest ones.
func TestP24_1Ranges(t *testing.T) {
	r := with(t, 64, 64)
	stands(t, r, 0, 0, false)
	takes(t, r, 63, "")
	takes(t, r, 10, "")
	takes(t, r, 12, "")
	takes(t, r, 14, "")
	stands(t, r, 0, 4, false, [2]int{10, 11}, [2]int{12, 13}, [2]int{14, 15}, [2]int{63, 64})
	takes(t, r, 20, "")
	stands(t, r, 0, 5, false, [2]int{10, 11}, [2]int{12, 13}, [2]int{14, 15}, [2]int{20, 21})
	takes(t, r, 21, "")
	stands(t, r, 0, 6, false, [2]int{10, 11}, [2]int{12, 13}, [2]int{14, 15}, [2]int{20, 22})
	takes(t, r, 13, "")
	stands(t, r, 0, 7, false, [2]int{10, 11}, [2]int{12, 15}, [2]int{20, 22}, [2]int{63, 64})
	takes(t, r, 2, "")
	stands(t, r, 0, 8, false, [2]int{2, 3}, [2]int{10, 11}, [2]int{12, 15}, [2]int{20, 22})
	takes(t, r, 11, "")
	stands(t, r, 0, 9, false, [2]int{2, 3}, [2]int{10, 15}, [2]int{20, 22}, [2]int{63, 64})
}

// TestP24_1Greatest holds that the last of the greatest number of items comes.
func TestP24_1Greatest(t *testing.T) {
	r := with(t, greatestN, 64)
	for i := range greatestN - 2 {
		if l, ok := r.Take(i, []byte{7}); !ok || len(l) != 1 {
			t.Fatal(i, l, ok)
		}
	}
	refuses(t, r, greatestN-3, greatestN)
	takes(t, r, greatestN-1, "z")
	stands(t, r, greatestN-2, 1, false, [2]int{greatestN - 1, greatestN})
	takes(t, r, greatestN-2, "y", "y", "z")
	stands(t, r, greatestN, 0, true)
}
