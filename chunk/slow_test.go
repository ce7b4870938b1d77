package chunk

import (
	"bytes"
	"encoding/binary"
	"hash/crc32"
	"math/rand"
	"slices"
	"strings"
	"testing"

	"halftone/api"
)

var eight = []byte{137, 80, 78, 71, 13, 10, 26, 10}

const letters = "ABCDEFGHIJKLMNOPQRSTUVWXYZabcdefghijklmnopqrstuvwxyz"

// place is where a chunk's parts stand in bytes that are all there. Those of which nothing is told stand nowhere (-1).
type place struct {
	kind                    string
	size                    int
	kindEnd, dataEnd, ended int
}

// slow takes a row of chunks apart that is all there: where its chunks stand, and behind which byte which error is to be told (-1: none).
func slow(b []byte) (list []place, at int, e api.Errno) {
	for i, want := range eight {
		if i == len(b) {
			return nil, -1, api.OK
		}
		if b[i] != want {
			return nil, i + 1, api.ErrForm
		}
	}
	for at := len(eight); ; {
		if len(b) < at+4 {
			return list, -1, api.OK
		}
		size := int(binary.BigEndian.Uint32(b[at:]))
		if size > 1048576 {
			return list, at + 4, api.ErrLong
		}
		if len(b) < at+8 {
			return list, -1, api.OK
		}
		kind := string(b[at+4 : at+8])
		for _, v := range []byte(kind) {
			if strings.IndexByte(letters, v) < 0 {
				return list, at + 8, api.ErrForm
			}
		}
		end := at + 8 + size
		p := place{kind, size, at + 8, min(end, len(b)), -1}
		if len(b) < end+4 {
			return append(list, p), -1, api.OK
		}
		if crc32.ChecksumIEEE(b[at+4:end]) != binary.BigEndian.Uint32(b[end:]) {
			return append(list, p), end + 4, api.ErrSum
		}
		p.ended = end + 4
		list = append(list, p)
		at = end + 4
	}
}

// news is what a push of the bytes of b from one place up to another tells, when all ahead of them were pushed.
func news(b []byte, from, to int) (told []api.Piece, e api.Errno) {
	list, at, e := slow(b)
	if at < 0 || at > to {
		e = api.OK
	}
	if at >= 0 && at <= from {
		return nil, e
	}
	for _, p := range list {
		piece := api.Piece{
			Kind:  p.kind,
			Size:  p.size,
			Begin: from < p.kindEnd && p.kindEnd <= to,
			End:   from < p.ended && p.ended <= to,
		}
		if one, other := max(from, p.kindEnd), min(to, p.dataEnd); one < other {
			piece.Data = b[one:other]
		}
		if piece.Begin || piece.End || len(piece.Data) > 0 {
			told = append(told, piece)
		}
	}
	return told, e
}

// between is what Between answers behind all of b.
func between(b []byte) bool {
	list, at, _ := slow(b)
	end := len(eight)
	if len(list) > 0 {
		end = list[len(list)-1].ended
	}
	return at < 0 && end == len(b)
}

func samePiece(a, b api.Piece) bool {
	return a.Kind == b.Kind && a.Size == b.Size && bytes.Equal(a.Data, b.Data) && a.Begin == b.Begin && a.End == b.End
}

// told fails unless a push answered this.
func told(t *testing.T, got []api.Piece, e api.Errno, want []api.Piece, wantE api.Errno, what ...any) {
	t.Helper()
	if !slices.EqualFunc(got, want, samePiece) || e != wantE {
		t.Fatal(what, got, e, "not", want, wantE)
	}
}

// asSlow pushes b, cut at these places: every push, and Between behind it, must answer as the slow reading does.
func asSlow(t *testing.T, b []byte, cuts ...int) {
	t.Helper()
	r := New()
	from := 0
	for _, to := range append(slices.Clone(cuts), len(b)) {
		got, e := r.Push(b[from:to])
		want, wantE := news(b, from, to)
		told(t, got, e, want, wantE, from, to)
		if r.Between() != between(b[:to]) {
			t.Fatal("Between", r.Between(), from, to)
		}
		from = to
	}
}

// singly is the cuts that leave single bytes.
func singly(b []byte) []int {
	var cuts []int
	for i := 1; i < len(b); i++ {
		cuts = append(cuts, i)
	}
	return cuts
}

// anyhow is cuts of any kind, with parts of no bytes among them.
func anyhow(rnd *rand.Rand, b []byte) []int {
	most := 1 + rnd.Intn(len(b)+1)
	var cuts []int
	for at := rnd.Intn(most + 1); at <= len(b); at += rnd.Intn(most + 1) {
		cuts = append(cuts, at)
		if len(cuts) > 4*len(b) {
			break
		}
	}
	return cuts
}

// slowChunk is a chunk's bytes, whatever its kind.
func slowChunk(kind string, data []byte) []byte {
	out := binary.BigEndian.AppendUint32(nil, uint32(len(data)))
	out = append(out, kind...)
	out = append(out, data...)
	return binary.BigEndian.AppendUint32(out, crc32.ChecksumIEEE(out[4:]))
}

// row is the eight bytes, and these parts behind them.
func row(parts ...[]byte) []byte { return append(slices.Clone(eight), slices.Concat(parts...)...) }

// some is n random bytes.
func some(rnd *rand.Rand, n int) []byte {
	b := make([]byte, n)
	for i := range b {
		b[i] = byte(rnd.Intn(256))
	}
	return b
}

// anyKind is four random letters.
func anyKind(rnd *rand.Rand) string {
	b := make([]byte, 4)
	for i := range b {
		b[i] = letters[rnd.Intn(len(letters))]
	}
	return string(b)
}

// anyChunks is up to n chunks, each of up to so many bytes of data.
func anyChunks(rnd *rand.Rand, n, most int) []api.Chunk {
	list := make([]api.Chunk, rnd.Intn(n+1))
	for i := range list {
		list[i] = api.Chunk{Kind: anyKind(rnd), Data: some(rnd, rnd.Intn(most+1))}
	}
	return list
}

// mustPack is the row of chunks that may be.
func mustPack(t *testing.T, list []api.Chunk) []byte {
	t.Helper()
	b, e := Pack(list)
	if e != api.OK {
		t.Fatal(e)
	}
	return b
}

// chunks puts pieces together: the chunks that they tell, the last one without an end if it has none.
func chunks(t *testing.T, pieces []api.Piece) (list []api.Chunk, ended bool) {
	t.Helper()
	ended = true
	size := 0
	for _, p := range pieces {
		if p.Begin != ended {
			t.Fatal("a chunk begins within another one, or goes on without a beginning", pieces)
		}
		if p.Begin {
			list = append(list, api.Chunk{Kind: p.Kind})
			size = p.Size
		}
		last := &list[len(list)-1]
		last.Data = append(last.Data, p.Data...)
		if p.Kind != last.Kind || p.Size != size || p.End && len(last.Data) != size {
			t.Fatal("pieces of one chunk that don't go together", pieces)
		}
		ended = p.End
	}
	return list, ended
}

func sameChunk(a, b api.Chunk) bool { return a.Kind == b.Kind && bytes.Equal(a.Data, b.Data) }
