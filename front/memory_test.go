package front

import (
	"math/rand"
	"slices"
	"testing"

	"halftone/api"
)

// roomy is bytes with spare room behind them, filled with what must stay there.
func roomy(b []byte) []byte {
	all := append(slices.Clone(b), 201, 202, 203, 204, 205)
	return all[:len(b)]
}

// whole is a copy of bytes with the five behind them.
func whole(b []byte) []byte { return slices.Clone(b[:len(b)+5]) }

// kept is a copy of lines that shares nothing with them.
func kept(l []api.Line) (out []api.Line) {
	for _, one := range l {
		out = append(out, api.Line{Pass: one.Pass, Spots: slices.Clone(one.Spots), Cols: slices.Clone(one.Cols)})
	}
	return out
}

// smear writes over a list, and over its spare room.
func smear[T any](l []T, v T) {
	l = l[:cap(l)]
	for i := range l {
		l[i] = v
	}
}

// spoil writes over a line's lists, and over their spare room.
func spoil(l api.Line) {
	smear(l.Spots, api.Spot{X: 999, Y: -999})
	smear(l.Cols, api.Color{R: 9, G: 9, B: 9, A: 9})
}

// apart writes over line after line: those that aren't written over stay as they were.
func apart(t *testing.T, l []api.Line) {
	t.Helper()
	was := kept(l)
	for i := range l {
		spoil(l[i])
		if !sameLines(l[i+1:], was[i+1:]) {
			t.Fatal("line", i, "shares memory with one behind it")
		}
	}
	smear(l, api.Line{Pass: 77})
}

// pictures are some files of both kinds, and such as have an error behind some lines.
func pictures() (list []picture) {
	rnd := rand.New(rand.NewSource(241))
	for i := range 12 {
		p := some(rnd, i, 2+rnd.Intn(8), 2+rnd.Intn(8))
		list = append(list, p)
		p.file = append(slices.Clone(p.file), 7)
		list = append(list, p)
	}
	return list
}

// What is handed in stays as it was, its spare room too, and may be written over behind the call; what was told may be written over, too.
func TestP20_1HandedInAndTold(t *testing.T) {
	for _, p := range pictures() {
		r := slow(p.file)
		for _, size := range []int{1, 3, 20, 100, len(p.file)} {
			f := New()
			from := 0
			for piece := range slices.Chunk(p.file, size) {
				b := roomy(piece)
				was := whole(b)
				to := from + len(b)
				l, e := f.Push(b)
				if !slices.Equal(whole(b), was) {
					t.Fatal("Push writes on", was)
				}
				smear(b, 99)
				if !sameLines(l, r.lines[r.moments[from].told:r.moments[to].told]) || e != r.moments[to].e {
					t.Fatal(from, to, brief(l), e)
				}
				apart(t, l)
				asked(t, f, r, to)
				from = to
			}
		}
	}
}

// So it is with the calls that take a whole file.
func TestP20_1HandedInWhole(t *testing.T) {
	for _, p := range pictures() {
		r := slow(p.file)
		b := roomy(p.file)
		was := whole(b)
		image, e := Check(b)
		lines, wrong := Lines(b)
		passes, fault := Passes(b, 9)
		if !slices.Equal(whole(b), was) {
			t.Fatal("written on")
		}
		if e != r.refused() || wrong != e || fault != e {
			t.Fatal(e, wrong, fault)
		}
		other, _ := Check(b)
		pix := slices.Clone(image.Pix)
		smear(b, 99)
		smear(other.Pix, api.Color{G: 1})
		if !slices.Equal(image.Pix, pix) {
			t.Fatal("two images are one")
		}
		all := kept(lines)
		more, _ := Lines(p.file)
		apart(t, more)
		if !sameLines(lines, all) {
			t.Fatal("two answers have a line together")
		}
		apart(t, lines)
		numbers := slices.Clone(passes)
		again, _ := Passes(p.file, 9)
		smear(again, 77)
		if !slices.Equal(passes, numbers) {
			t.Fatal("two lists of passes are one")
		}
		checked(t, p.file, r)
	}
}

// What was told stays as it was, whatever comes later.
func TestP20_1ToldStays(t *testing.T) {
	for _, p := range pictures() {
		f := New()
		var told, was []api.Line
		for piece := range slices.Chunk(p.file, 11) {
			l, _ := f.Push(piece)
			told = append(told, l...)
			was = append(was, kept(l)...)
		}
		if !sameLines(told, was) || !sameLines(told, p.lines()) {
			t.Fatal(brief(told))
		}
	}
}

// Fronts don't depend on one another: files that come side by side are read as if each came alone.
func TestP20_1SideBySide(t *testing.T) {
	list := pictures()
	fronts := make([]*Front, len(list))
	readings := make([]reading, len(list))
	longest := 0
	for i, p := range list {
		fronts[i], readings[i] = New(), slow(p.file)
		longest = max(longest, len(p.file))
	}
	for at := 0; at < longest; at += 13 {
		for i, p := range list {
			if at < len(p.file) {
				pushed(t, fronts[i], p.file, readings[i], at, min(at+13, len(p.file)))
			}
		}
	}
	for i, p := range list {
		asked(t, fronts[i], readings[i], len(p.file))
	}
}
