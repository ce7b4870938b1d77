package token

import (
	"bytes"
	"math/rand"
	"slices"
	"testing"

	"halftone/api"
)

// TestP25_1Short holds that fewer than 13 bytes are none, whatever they are: with a sum that is right, too.
func TestP25_1Short(t *testing.T) {
	whole := must(Write(api.Token{File: 1, Sum: 2}))
	for n := range 13 {
		isRefused(t, whole[:n], api.ErrShort)
		isRefused(t, make([]byte, n), api.ErrShort)
		if n >= 4 {
			isRefused(t, sealed(make([]byte, n-4)), api.ErrShort)
			isRefused(t, sealed(bytes.Repeat([]byte{255}, n-4)), api.ErrShort)
		}
	}
	isRefused(t, nil, api.ErrShort)
	reads(t, whole, api.Token{File: 1, Sum: 2})
}

// TestP25_1Sum holds that a sum that isn't right is told ahead of what else is wrong.
func TestP25_1Sum(t *testing.T) {
	for _, b := range [][]byte{
		fields(1, 2, 0, nil),
		fields(16, 2, 0, nil),
		fields(255, mostSum, mostSum, nil),
		fields(1, 2, 3, []byte("ab")),
		fields(1, 2, 1, []byte("ab")),
		fields(0, 0, 9, make([]byte, 9)),
	} {
		for k := 1; k <= 4; k++ {
			for _, x := range []byte{1, 128, 255} {
				w := slices.Clone(b)
				w[len(w)-k] ^= x
				isRefused(t, w, api.ErrSum)
			}
		}
	}
	isRefused(t, make([]byte, 13), api.ErrSum)
	b := fields(1, 2, 2, []byte("ab"))
	isRefused(t, b[:len(b)-1], api.ErrSum)
	isRefused(t, append(b, 0), api.ErrSum)
	// The sum with its highest byte first.
	n := len(b)
	slices.Reverse(b[n-4 : n])
	isRefused(t, b, api.ErrSum)
}

// TestP25_1Form holds that bytes with the right sum are no token, if a field isn't one's.
func TestP25_1Form(t *testing.T) {
	for file := range 256 {
		b := fields(byte(file), 7, 2, []byte("ab"))
		if file < 16 {
			reads(t, b, api.Token{File: file, Sum: 7, Data: []byte("ab")})
		} else {
			isRefused(t, b, api.ErrForm)
		}
	}
	for have := range 6 {
		data := make([]byte, have)
		for n := range 8 {
			b := fields(4, 5, uint32(n), data)
			if n == have {
				reads(t, b, api.Token{File: 4, Sum: 5, Data: data})
			} else {
				isRefused(t, b, api.ErrForm)
			}
		}
		for _, n := range []uint32{255, 256, mostData, mostData + 1, 1 << 24, 1 << 31, mostSum - 1, mostSum, 1<<31 + uint32(have), 1<<24 + uint32(have)} {
			isRefused(t, fields(4, 5, n, data), api.ErrForm)
		}
	}
	// The number of bytes with its lowest byte first.
	isRefused(t, sealed([]byte{1, 0, 0, 0, 2, 1, 0, 0, 0, 'a'}), api.ErrForm)
}

// TestP25_1Long holds that a token of the greatest number of bytes is read, and of one more none.
func TestP25_1Long(t *testing.T) {
	rnd := rand.New(rand.NewSource(253))
	data := some(rnd, mostData+2)
	reads(t, fields(15, 1, mostData, data[:mostData]), api.Token{File: 15, Sum: 1, Data: data[:mostData]})
	isRefused(t, fields(15, 1, mostData+1, data[:mostData+1]), api.ErrForm)
	isRefused(t, fields(15, 1, mostData, data[:mostData+1]), api.ErrForm)
	isRefused(t, fields(15, 1, mostData, data[:mostData-1]), api.ErrForm)
	isRefused(t, fields(15, 1, mostData+2, data), api.ErrForm)
}

// slow reads bytes by the chapter's words.
func slow(b []byte) (api.Token, api.Errno) {
	if len(b) < 13 {
		return api.Token{}, api.ErrShort
	}
	text := b[:len(b)-4]
	if !bytes.Equal(sealed(text), b) {
		return api.Token{}, api.ErrSum
	}
	number := func(p []byte) (n uint32) {
		for _, x := range p {
			n = n<<8 + uint32(x)
		}
		return n
	}
	data := text[9:]
	if text[0] > 15 || number(text[5:9]) != uint32(len(data)) || len(data) > mostData {
		return api.Token{}, api.ErrForm
	}
	return api.Token{File: int(text[0]), Sum: number(text[1:5]), Data: data}, api.OK
}

// TestP25_1SlowRead holds spoilt tokens, most of them with a sum that is right, against the chapter's words.
func TestP25_1SlowRead(t *testing.T) {
	rnd := rand.New(rand.NewSource(254))
	for range 20000 {
		b := must(Write(random(rnd)))
		text := b[:len(b)-4]
		switch rnd.Intn(6) {
		case 0:
			text = text[:rnd.Intn(len(text)+1)]
		case 1:
			text = append(text, some(rnd, rnd.Intn(4))...)
		case 2, 3:
			text[rnd.Intn(min(9, len(text)))] ^= 1 << rnd.Intn(8)
		case 4:
			text = some(rnd, rnd.Intn(20))
		}
		b = sealed(text)
		if rnd.Intn(5) == 0 {
			b[rnd.Intn(len(b))] ^= 1 << rnd.Intn(8)
		}
		want, e := slow(b)
		if e != api.OK {
			isRefused(t, b, e)
		} else {
			reads(t, b, want)
		}
	}
}

// TestP25_2There holds that what is written is read as it was.
func TestP25_2There(t *testing.T) {
	rnd := rand.New(rand.NewSource(255))
	for range 3000 {
		tok := random(rnd)
		reads(t, must(Write(tok)), tok)
	}
	for _, n := range []int{0, 1, 65535, 65536, mostData - 1, mostData} {
		tok := api.Token{File: n % 16, Sum: rnd.Uint32(), Data: some(rnd, n)}
		reads(t, must(Write(tok)), tok)
	}
}

// TestP25_2Back holds that what is read is written as it was.
func TestP25_2Back(t *testing.T) {
	rnd := rand.New(rand.NewSource(256))
	read := 0
	for range 20000 {
		n := rnd.Intn(6)
		b := fields(byte(rnd.Intn(18)), rnd.Uint32(), uint32(rnd.Intn(6)), some(rnd, n))
		tok, e := Read(b)
		if e != api.OK {
			continue
		}
		read++
		writes(t, tok, b)
	}
	if read < 1000 {
		t.Fatal("only", read, "are read")
	}
}
