package session

import (
	"math"
	"testing"

	"halftone/api"
	"halftone/front"
)

// offers holds that a server's next Tick begins with an offer of a file.
func offers(t *testing.T, v *Server, boot uint32, file int, b []byte, at int) {
	t.Helper()
	list := v.Tick()
	if len(list) == 0 {
		t.Fatal("nothing is sent")
	}
	says(t, list[:1], offerOf(boot, file, b, at, v.setup.Body))
}

// silent holds that a server sends nothing, as there is no transfer.
func silent(t *testing.T, v *Server) {
	t.Helper()
	for range 3 {
		says(t, v.Tick())
	}
	if v.Busy() {
		t.Fatal("busy")
	}
}

// The chapter's example: a client at boot 1, and a server of no files.
func TestP26_1Example(t *testing.T) {
	c, _ := asking(t, plain(), 1, 0)
	asked := c.Tick()
	says(t, asked, []byte{1, 0, 0, 0, 1, 0, 0, 0, 0, 0, 0, 0, 0, 0, 143, 243, 118, 163})
	v := serves(t, plain())
	refused := v.Recv(asked[0])
	says(t, refused, []byte{5, 0, 0, 0, 1, 0, 16, 138, 138, 33, 211})
	says(t, c.Recv(refused[0]))
	stands(t, c, api.Refused, 16, 0, 0, 0)
}

func TestP26_1NoSuchFile(t *testing.T) {
	for n := range 17 {
		files := make([][]byte, n)
		for i := range files {
			files[i] = small()
		}
		v := serves(t, plain(), files...)
		for file := range 16 {
			boot := uint32(file + 5)
			if file < n {
				says(t, v.Recv(ask(boot, file, 0, 0)))
				offers(t, v, boot, file, small(), 0)
				continue
			}
			says(t, v.Recv(ask(boot, file, 0, 0)), no(boot, file, 16))
			silent(t, v)
		}
	}
}

func TestP26_1NotAccepted(t *testing.T) {
	met := 0
	for e, b := range spoilt() {
		if _, got := front.Check(b); got != e {
			t.Fatal(got, "not", e)
		}
		v := serves(t, plain(), small(), b)
		says(t, v.Recv(ask(1, 1, 0, 0)), no(1, 1, int(e)))
		silent(t, v)
		// Nor for one who says that he has it.
		says(t, v.Recv(ask(2, 1, sum(b), len(b))), no(2, 1, int(e)))
		silent(t, v)
		met++
	}
	if met < 6 {
		t.Error(met)
	}
}

// An ask of the boot that was refused is refused again, with the file and the number of the first one, whatever it asks for.
func TestP26_1SameBootRefusedAgain(t *testing.T) {
	v := serves(t, plain(), small(), []byte{1})
	for _, one := range []struct{ file, code int }{{2, 16}, {1, 3}, {15, 16}} {
		boot := uint32(10 + one.file)
		if one.file == 1 {
			boot = 13
		}
		for range 3 {
			says(t, v.Recv(ask(boot, one.file, 0, 0)), no(boot, one.file, one.code))
			says(t, v.Recv(ask(boot, 0, 0, 0)), no(boot, one.file, one.code))
			says(t, v.Recv(ask(boot, 15, 9, 9)), no(boot, one.file, one.code))
			says(t, v.Recv(ack(boot, 9)))
			silent(t, v)
			says(t, v.Recv(ask(boot-1, 0, 0, 0)))
		}
	}
}

// An ask of the boot that was accepted is answered nothing, and changes nothing.
func TestP26_1SameBootAccepted(t *testing.T) {
	b := small()
	v := serves(t, plain(), b, greyPng(1, 1, false, 9))
	says(t, v.Recv(ask(4, 0, sum(b), 30)))
	for _, again := range [][]byte{ask(4, 0, sum(b), 30), ask(4, 0, 0, 0), ask(4, 1, 0, 0), ask(4, 9, 0, 0)} {
		says(t, v.Recv(again))
		offers(t, v, 4, 0, b, 30)
		v = serves(t, plain(), b)
		v.Recv(ask(4, 0, sum(b), 30))
	}
	// Nor when all has come.
	v.Tick()
	v.Recv(ack(4, 9))
	v.Tick()
	v.Recv(ack(4, 9))
	if v.Busy() {
		t.Fatal("busy")
	}
	says(t, v.Recv(ask(4, 0, 0, 0)))
	silent(t, v)
}

func TestP26_1LowerBoot(t *testing.T) {
	b := small()
	for _, boot := range []uint32{1, 2, 1 << 31, 1<<31 + 1, math.MaxUint32} {
		v := serves(t, plain(), b)
		says(t, v.Recv(ask(boot, 0, 0, 0)))
		for _, lower := range []uint32{0, boot - 1, boot / 2} {
			says(t, v.Recv(ask(lower, 0, sum(b), 5)))
			says(t, v.Recv(ask(lower, 1, 0, 0)))
		}
		offers(t, v, boot, 0, b, 0)
		// Behind a refusal likewise.
		v = serves(t, plain())
		says(t, v.Recv(ask(boot, 0, 0, 0)), no(boot, 0, 16))
		for _, lower := range []uint32{0, boot - 1, boot / 2} {
			says(t, v.Recv(ask(lower, 0, 0, 0)))
		}
		says(t, v.Recv(ask(boot, 0, 0, 0)), no(boot, 0, 16))
	}
}

// Boot 0 is a boot like others, if there was none.
func TestP26_1BootNought(t *testing.T) {
	b := small()
	v := serves(t, plain(), b)
	says(t, v.Recv(ask(0, 0, 0, 0)))
	offers(t, v, 0, 0, b, 0)
	says(t, v.Recv(ask(0, 3, 0, 0)))
	says(t, v.Recv(ask(1, 3, 0, 0)), no(1, 3, 16))
	v = serves(t, plain(), b)
	says(t, v.Recv(ask(0, 3, 0, 0)), no(0, 3, 16))
	says(t, v.Recv(ask(0, 0, 0, 0)), no(0, 3, 16))
}

// A greater boot ends what is under way, in its midst too, and begins anew, with gaps of its own.
func TestP26_1GreaterBootInTheMidst(t *testing.T) {
	b, other := small(), greyPng(9, 9, false, make([]int, 81)...)
	v := serves(t, plain(), b, other, nil)
	says(t, v.Recv(ask(1, 0, 0, 0)))
	for range 5 {
		v.Tick()
	}
	v.Recv(ack(1, 2))
	v.Tick()
	says(t, v.Recv(ask(2, 1, 0, 0)))
	for range 2 {
		says(t, v.Tick(), offerOf(2, 1, other, 0, 20), data(2, 1, 1, other[:20]), data(2, 2, 1, other[20:40]))
	}
	// Acks of the boot that was are of nothing that is.
	says(t, v.Recv(ack(1, 3)))
	says(t, v.Recv(ack(3, 3)))
	v.Tick()
	says(t, v.Tick(), offerOf(2, 1, other, 0, 20), data(2, 1, 1, other[:20]), data(2, 2, 1, other[20:40]))
	// A refusal ends it, too, and behind one a transfer begins.
	says(t, v.Recv(ask(9, 2, 0, 0)), no(9, 2, 2))
	silent(t, v)
	says(t, v.Recv(ack(2, 1)))
	silent(t, v)
	says(t, v.Recv(ask(10, 0, 0, 0)))
	says(t, v.Recv(ask(9, 2, 0, 0)))
	offers(t, v, 10, 0, b, 0)
	says(t, v.Recv(ask(10, 2, 0, 0)))
}

// From where on a transfer is.
func TestP26_1From(t *testing.T) {
	b := small()
	n := len(b)
	for _, one := range []struct {
		sum  uint32
		at   int
		want int
	}{
		{sum(b), 0, 0}, {sum(b), 1, 1}, {sum(b), 20, 20}, {sum(b), n - 1, n - 1}, {sum(b), n, n},
		{sum(b), n + 1, 0}, {sum(b), 1 << 20, 0}, {sum(b) + 1, 20, 0}, {sum(b) ^ 1<<31, n, 0}, {0, 20, 0}, {^sum(b), 1, 0}, {0, 0, 0},
		{sum(b[:20]), 20, 0},
	} {
		v := serves(t, plain(), []byte{1}, b)
		says(t, v.Recv(ask(3, 1, one.sum, one.at)))
		if !v.Busy() {
			t.Fatal("not busy")
		}
		offers(t, v, 3, 1, b, one.want)
	}
	// Of another file's sum, which the server has too.
	other := greyPng(1, 1, false, 9)
	v := serves(t, plain(), other, b)
	says(t, v.Recv(ask(3, 1, sum(other), 20)))
	offers(t, v, 3, 1, b, 0)
}

// What is no message, and what isn't for a server, is answered nothing, and changes nothing.
func TestP26_1NoAsk(t *testing.T) {
	b := small()
	asked := ask(5, 0, 0, 0)
	for _, begun := range []bool{false, true} {
		v := serves(t, plain(), b)
		if begun {
			says(t, v.Recv(asked))
		}
		for _, m := range [][]byte{
			nil, {}, {1}, asked[:17], append(append([]byte{}, asked...), 0), ask(6, 0, 0, 0)[1:],
			offerOf(6, 0, b, 0, 20), offerOf(5, 0, b, 0, 20), dataOf(5, 1, b, 0, 20), dataOf(6, 1, b, 0, 20), no(5, 0, 16), no(6, 0, 16),
			ack(6, 1), ack(4, 1), ack(0, 1), ack(6, 9, [2]int{10, 12}),
		} {
			says(t, v.Recv(m))
		}
		for i := range len(asked) * 8 {
			turned := ask(6, 0, 0, 0)
			turned[i/8] ^= 1 << (i % 8)
			says(t, v.Recv(turned))
		}
		if v.Busy() != begun {
			t.Fatal(v.Busy())
		}
		if !begun {
			silent(t, v)
			continue
		}
		offers(t, v, 5, 0, b, 0)
	}
}

// Acks ahead of any ask, and of items that weren't sent yet.
func TestP26_1AcksAhead(t *testing.T) {
	b := small()
	v := serves(t, plain(), b)
	says(t, v.Recv(ack(0, 3)))
	says(t, v.Recv(ack(5, 3)))
	says(t, v.Recv(ask(0, 0, 0, 0)))
	says(t, v.Recv(ack(0, 3, [2]int{4, 9})))
	says(t, v.Tick(), offerOf(0, 0, b, 0, 20), data(0, 1, 1, b[:20]), data(0, 2, 1, b[20:40]))
	if !v.Busy() {
		t.Error("not busy")
	}
}
