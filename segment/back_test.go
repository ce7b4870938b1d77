package segment

import (
	"bytes"
	"math/rand"
	"testing"

	"halftone/api"
)

// back writes a message and reads it.
func back(t *testing.T, m api.Msg) {
	t.Helper()
	b, e := Write(m)
	if e != api.OK {
		t.Fatal(m, e)
	}
	reads(t, b, m)
}

func TestP22_2Messages(t *testing.T) {
	t.Parallel()
	rnd := rand.New(rand.NewSource(227))
	for range 4000 {
		for _, kind := range every {
			back(t, random(rnd, kind))
		}
	}
}

func TestP22_2EveryLength(t *testing.T) {
	t.Parallel()
	rnd := rand.New(rand.NewSource(228))
	for n := 1; n <= api.MaxBody; n++ {
		m := random(rnd, api.KindData)
		m.Data = some(rnd, n)
		back(t, m)
	}
}

func TestP22_2EverySmallNumber(t *testing.T) {
	for file := range 16 {
		for code := range 256 {
			back(t, api.Msg{Kind: api.KindNo, File: file, Code: code})
		}
		back(t, api.Msg{Kind: api.KindAsk, File: file})
		back(t, api.Msg{Kind: api.KindOffer, File: file, Size: 1, Body: 1})
	}
	for pass := range 9 {
		for v := range 256 {
			back(t, api.Msg{Kind: api.KindData, Pass: pass, Data: []byte{byte(v)}})
		}
	}
	for body := 1; body <= api.MaxBody; body++ {
		back(t, api.Msg{Kind: api.KindOffer, Size: api.MaxFile, At: api.MaxFile, Body: body})
	}
}

// Each power of two in each number: no bit of it is lost.
func TestP22_2EveryBit(t *testing.T) {
	for _, kind := range every {
		for bit := range 32 {
			m := plain(kind)
			m.Boot = 1 << bit
			back(t, m)
		}
		for _, s := range slots[kind] {
			m := plain(kind)
			m.Ranges = nil
			if kind == api.KindOffer {
				m.At, m.Size = 0, api.MaxFile
			}
			for v := 1; v <= s.most; v *= 2 {
				back(t, with(m, s, v))
			}
		}
	}
	for bit := range 31 {
		back(t, api.Msg{Kind: api.KindAck, Ranges: [][2]int{{1, 2}, {1<<bit + 2, 1<<bit + 3}}})
	}
}

// What is read, of bytes that nobody here wrote, is written as it was.
func TestP22_2WrittenAsItWas(t *testing.T) {
	t.Parallel()
	rnd := rand.New(rand.NewSource(229))
	read := map[int]int{}
	for i := range 60000 {
		b := text(random(rnd, every[i%5]))
		for range rnd.Intn(3) {
			b[rnd.Intn(len(b))] ^= byte(1 << rnd.Intn(8))
		}
		b = sealed(b)
		m, e := Read(b)
		if e != api.OK {
			continue
		}
		read[m.Kind]++
		if again, e := Write(m); e != api.OK || !bytes.Equal(again, b) {
			t.Fatal(b, "is read as", m, "and written as", again, e)
		}
	}
	for _, kind := range every {
		if read[kind] < 2000 {
			t.Error("of the kind", kind, "are read", read[kind])
		}
	}
}

// No two messages have the same bytes.
func TestP22_2Apart(t *testing.T) {
	rnd := rand.New(rand.NewSource(230))
	told := map[string]api.Msg{}
	for i := range 5000 {
		m := random(rnd, every[i%5])
		b := string(must(Write(m)))
		if other, known := told[b]; known && !equal(m, other) {
			t.Fatal(m, "and", other, "are both", []byte(b))
		}
		told[b] = m
	}
}
