package chunk

import (
	"bytes"
	"encoding/binary"
	"image"
	"image/png"
	"math/rand"
	"slices"
	"strings"
	"testing"

	"halftone/api"
)

var iend = []byte{0, 0, 0, 0, 73, 69, 78, 68, 174, 66, 96, 130}

// step is a push, and what it is to answer.
type step struct {
	b       []byte
	want    []api.Piece
	e       api.Errno
	between bool
}

func steps(t *testing.T, list ...step) {
	t.Helper()
	r := New()
	for i, s := range list {
		got, e := r.Push(s.b)
		told(t, got, e, s.want, s.e, "push", i)
		if r.Between() != s.between {
			t.Fatal("push", i, "Between", r.Between())
		}
	}
}

func TestP11_1Examples(t *testing.T) {
	for _, none := range [][]api.Chunk{nil, {}} {
		if b, e := Pack(none); !bytes.Equal(b, eight) || e != api.OK {
			t.Error(b, e)
		}
	}
	for _, none := range [][]byte{nil, {}} {
		b, e := Pack([]api.Chunk{{Kind: "IEND", Data: none}})
		if !bytes.Equal(b, row(iend)) || e != api.OK {
			t.Error(b, e)
		}
	}
}

func TestP11_1WholeInOnePush(t *testing.T) {
	b := row(slowChunk("IHDR", []byte{1, 2, 3}), slowChunk("abCD", nil), iend)
	steps(t, step{b, []api.Piece{
		{Kind: "IHDR", Size: 3, Data: []byte{1, 2, 3}, Begin: true, End: true},
		{Kind: "abCD", Begin: true, End: true},
		{Kind: "IEND", Begin: true, End: true},
	}, api.OK, true})
}

// A push ends within the eight, the size, the kind, the data and the sum, and at the end of each of them.
func TestP11_1InManyPushes(t *testing.T) {
	c := slowChunk("IDAT", []byte{7, 8, 9})
	piece := func(data []byte, begin, end bool) []api.Piece {
		return []api.Piece{{Kind: "IDAT", Size: 3, Data: data, Begin: begin, End: end}}
	}
	steps(t,
		step{eight[:3], nil, api.OK, false},
		step{eight[3:], nil, api.OK, true},
		step{c[:2], nil, api.OK, false},
		step{c[2:4], nil, api.OK, false},
		step{c[4:5], nil, api.OK, false},
		step{c[5:8], piece(nil, true, false), api.OK, false},
		step{c[8:9], piece([]byte{7}, false, false), api.OK, false},
		step{c[9:11], piece([]byte{8, 9}, false, false), api.OK, false},
		step{c[11:12], nil, api.OK, false},
		step{c[12:14], nil, api.OK, false},
		step{c[14:], piece(nil, false, true), api.OK, true},
	)
	steps(t,
		step{row(c[:10]), piece([]byte{7, 8}, true, false), api.OK, false},
		step{c[10:14], piece([]byte{9}, false, false), api.OK, false},
		step{c[14:], piece(nil, false, true), api.OK, true},
	)
	steps(t,
		step{row(c[:7]), nil, api.OK, false},
		step{c[7:], piece([]byte{7, 8, 9}, true, true), api.OK, true},
	)
}

// One push ends a chunk and begins another one: a piece of each.
func TestP11_1PushOverTwoChunks(t *testing.T) {
	c, d := slowChunk("IDAT", []byte{7, 8}), slowChunk("tEXt", []byte{1, 2})
	steps(t,
		step{row(c[:9]), []api.Piece{{Kind: "IDAT", Size: 2, Data: []byte{7}, Begin: true}}, api.OK, false},
		step{slices.Concat(c[9:], d[:9]), []api.Piece{
			{Kind: "IDAT", Size: 2, Data: []byte{8}, End: true},
			{Kind: "tEXt", Size: 2, Data: []byte{1}, Begin: true},
		}, api.OK, false},
		step{d[9:], []api.Piece{{Kind: "tEXt", Size: 2, Data: []byte{2}, End: true}}, api.OK, true},
		step{c[:4], nil, api.OK, false},
	)
}

// The kind and the size that a push without a piece leaves behind belong to the chunk that comes.
func TestP11_1SameKindAgain(t *testing.T) {
	c, d := slowChunk("IDAT", []byte{7, 8}), slowChunk("IDAT", []byte{9})
	steps(t,
		step{row(c, d[:4]), []api.Piece{{Kind: "IDAT", Size: 2, Data: []byte{7, 8}, Begin: true, End: true}}, api.OK, false},
		step{d[4:8], []api.Piece{{Kind: "IDAT", Size: 1, Begin: true}}, api.OK, false},
		step{d[8:], []api.Piece{{Kind: "IDAT", Size: 1, Data: []byte{9}, End: true}}, api.OK, true},
	)
}

func TestP11_1ChunkWithoutData(t *testing.T) {
	steps(t, step{row(iend), []api.Piece{{Kind: "IEND", Begin: true, End: true}}, api.OK, true})
	steps(t,
		step{row(iend[:8]), []api.Piece{{Kind: "IEND", Begin: true}}, api.OK, false},
		step{nil, nil, api.OK, false},
		step{iend[8:11], nil, api.OK, false},
		step{iend[11:], []api.Piece{{Kind: "IEND", End: true}}, api.OK, true},
	)
}

func TestP11_1PushOfNoBytes(t *testing.T) {
	b := row(slowChunk("IDAT", []byte{7, 8, 9}), iend)
	for i := range len(b) + 1 {
		for _, none := range [][]byte{nil, {}} {
			r := New()
			r.Push(b[:i])
			before := r.Between()
			got, e := r.Push(none)
			told(t, got, e, nil, api.OK, i)
			if r.Between() != before {
				t.Fatal("Between is another one", i)
			}
			got, e = r.Push(b[i:])
			want, _ := news(b, i, len(b))
			told(t, got, e, want, api.OK, i)
		}
	}
}

// Each of the first eight, as every other byte, is told as soon as it is there; what stands behind doesn't matter.
func TestP11_1FirstEight(t *testing.T) {
	for i := range eight {
		for v := range 256 {
			b := row(iend)
			b[i] = byte(v)
			e := api.ErrForm
			if b[i] == eight[i] {
				e = api.OK
			}
			steps(t, step{b[:i], nil, api.OK, false}, step{b[i : i+1], nil, e, e == api.OK && i == 7})
			steps(t, step{b[:i+1], nil, e, e == api.OK && i == 7})
			asSlow(t, b)
		}
	}
}

func word(v uint32) []byte { return binary.BigEndian.AppendUint32(nil, v) }

func TestP11_1Size(t *testing.T) {
	for _, v := range []uint32{1<<20 + 1, 1<<20 + 255, 1 << 21, 1<<24 - 1, 1 << 24, 1<<31 - 1, 1 << 31, 1<<31 + 4, 1<<32 - 1} {
		size := word(v)
		for i := range 4 {
			steps(t,
				step{row(size[:i]), nil, api.OK, i == 0},
				step{size[i:3], nil, api.OK, i == 0 && len(size[i:3]) == 0},
				step{size[3:], nil, api.ErrLong, false},
				step{iend, nil, api.ErrLong, false},
			)
			steps(t, step{row(size[:i]), nil, api.OK, i == 0}, step{slices.Concat(size[i:], []byte("ID!T")), nil, api.ErrLong, false})
		}
	}
	for _, v := range []uint32{0, 1, 255, 256, 65536, 1<<20 - 1, 1 << 20} {
		b := row(word(v), []byte("IDAT"))
		want := []api.Piece{{Kind: "IDAT", Size: int(v), Begin: true}}
		steps(t, step{b, want, api.OK, false})
		steps(t, step{b[:12], nil, api.OK, false}, step{b[12:], want, api.OK, false})
	}
}

// A chunk may have MaxFile bytes of data, though no row of chunks with it could be packed.
func TestP11_1GreatestChunk(t *testing.T) {
	data := some(rand.New(rand.NewSource(201)), api.MaxFile)
	b := row(slowChunk("IDAT", data))
	steps(t, step{b, []api.Piece{{Kind: "IDAT", Size: api.MaxFile, Data: data, Begin: true, End: true}}, api.OK, true})
	asSlow(t, b, 500, 70000, api.MaxFile, api.MaxFile+17)
	b[len(b)-1]++
	asSlow(t, b, api.MaxFile, api.MaxFile+16)
}

// Every byte at each place of a kind; it is told when the kind is whole.
func TestP11_1Kind(t *testing.T) {
	for i := range 4 {
		for v := range 256 {
			kind := []byte("IdAt")
			kind[i] = byte(v)
			c := slowChunk(string(kind), []byte{5})
			last := step{c[7:], []api.Piece{{Kind: string(kind), Size: 1, Data: []byte{5}, Begin: true, End: true}}, api.OK, true}
			if strings.IndexByte(letters, byte(v)) < 0 {
				last = step{c[7:8], nil, api.ErrForm, false}
			}
			steps(t, step{row(c[:7]), nil, api.OK, false}, last)
			steps(t, step{row(c[:4]), nil, api.OK, false}, step{c[4:7], nil, api.OK, false}, last)
			asSlow(t, row(c, iend))
			asSlow(t, row(iend, c, iend))
		}
	}
}

// Each byte of a sum as every other one: told when all four are there, with the data that came with this push.
func TestP11_1Sum(t *testing.T) {
	data := []byte{7, 8, 9}
	right := slowChunk("IDAT", data)
	for i := 11; i < 15; i++ {
		for v := range 256 {
			if byte(v) == right[i] {
				continue
			}
			c := slices.Clone(right)
			c[i] = byte(v)
			steps(t, step{row(c), []api.Piece{{Kind: "IDAT", Size: 3, Data: data, Begin: true}}, api.ErrSum, false})
			steps(t,
				step{row(iend, c[:9]), []api.Piece{{Kind: "IEND", Begin: true, End: true}, {Kind: "IDAT", Size: 3, Data: data[:1], Begin: true}}, api.OK, false},
				step{slices.Concat(c[9:], iend), []api.Piece{{Kind: "IDAT", Size: 3, Data: data[1:]}}, api.ErrSum, false},
			)
			steps(t,
				step{row(c[:10]), []api.Piece{{Kind: "IDAT", Size: 3, Data: data[:2], Begin: true}}, api.OK, false},
				step{c[10:14], []api.Piece{{Kind: "IDAT", Size: 3, Data: data[2:]}}, api.OK, false},
				step{c[14:], nil, api.ErrSum, false},
			)
			steps(t,
				step{row(c[:11]), []api.Piece{{Kind: "IDAT", Size: 3, Data: data, Begin: true}}, api.OK, false},
				step{c[11:], nil, api.ErrSum, false},
			)
		}
	}
}

// Without data, but with its kind in this push, a chunk with a wrong sum has begun still.
func TestP11_1WrongSumWithoutData(t *testing.T) {
	c := slices.Clone(iend)
	c[11]++
	steps(t, step{row(c), []api.Piece{{Kind: "IEND", Begin: true}}, api.ErrSum, false})
	steps(t, step{row(c[:8]), []api.Piece{{Kind: "IEND", Begin: true}}, api.OK, false}, step{c[8:], nil, api.ErrSum, false})
}

// The pieces ahead of an error come with it.
func TestP11_1PiecesAheadOfAnError(t *testing.T) {
	c := slowChunk("IDAT", []byte{7, 8, 9})
	for name, bad := range map[string]struct {
		b []byte
		e api.Errno
	}{
		"size": {word(api.MaxFile + 1), api.ErrLong},
		"kind": {[]byte("\x00\x00\x00\x00IEN1"), api.ErrForm},
	} {
		t.Run(name, func(t *testing.T) {
			whole := []api.Piece{{Kind: "IDAT", Size: 3, Data: []byte{7, 8, 9}, Begin: true, End: true}, {Kind: "IEND", Begin: true, End: true}}
			steps(t, step{row(c, iend, bad.b), whole, bad.e, false})
			steps(t,
				step{row(c[:9]), []api.Piece{{Kind: "IDAT", Size: 3, Data: []byte{7}, Begin: true}}, api.OK, false},
				step{slices.Concat(c[9:], bad.b), []api.Piece{{Kind: "IDAT", Size: 3, Data: []byte{8, 9}, End: true}}, bad.e, false},
			)
		})
	}
}

func TestP11_1BehindAnError(t *testing.T) {
	wrong := slices.Clone(iend)
	wrong[9] ^= 16
	for _, c := range []struct {
		b []byte
		e api.Errno
	}{
		{[]byte{138}, api.ErrForm},
		{row()[1:], api.ErrForm},
		{row(word(1 << 31)), api.ErrLong},
		{row(iend, []byte("\x00\x00\x00\x01@AAA")), api.ErrForm},
		{row(wrong), api.ErrSum},
	} {
		for _, more := range [][]byte{nil, {}, {0}, eight, iend, row(iend), make([]byte, 100)} {
			r := New()
			if _, e := r.Push(c.b); e != c.e || r.Between() {
				t.Fatal(c.b, e, r.Between())
			}
			for range 3 {
				got, e := r.Push(more)
				told(t, got, e, nil, c.e, c.b, more)
				if r.Between() {
					t.Fatal("Between behind an error")
				}
			}
		}
	}
}

func TestP11_1Between(t *testing.T) {
	if New().Between() {
		t.Error("behind nothing")
	}
	b := row(slowChunk("IDAT", []byte{7, 8, 9}), iend)
	want := map[int]bool{8: true, 23: true, 35: true}
	for i := range len(b) + 1 {
		r := New()
		r.Push(b[:i])
		if r.Between() != want[i] || r.Between() != want[i] {
			t.Error(i, r.Between())
		}
	}
}

func TestP11_1NilReader(t *testing.T) {
	var r *Reader
	for _, b := range [][]byte{nil, {}, {0}, eight, row(iend)} {
		got, e := r.Push(b)
		told(t, got, e, nil, api.ErrArg)
		if r.Between() {
			t.Error("Between")
		}
	}
}

func TestP11_1ReaderOfNoNew(t *testing.T) {
	r := &Reader{}
	got, e := r.Push(row(iend))
	told(t, got, e, []api.Piece{{Kind: "IEND", Begin: true, End: true}}, api.OK)
	if !r.Between() {
		t.Error("Between")
	}
}

func TestP11_1PackKinds(t *testing.T) {
	for _, kind := range []string{"", "I", "IE", "IEN", "IENDS", "IENDIEND", "IEN\x00", "äöü", "ää", "IEä", "IEN ", "1END", "I_ND", "IE-D"} {
		for _, list := range [][]api.Chunk{
			{{Kind: kind}},
			{{Kind: kind, Data: []byte{1}}, {Kind: "IEND"}},
			{{Kind: "IEND"}, {Kind: kind}},
		} {
			if b, e := Pack(list); len(b) != 0 || e != api.ErrArg {
				t.Error(kind, b, e)
			}
		}
	}
	for i := range 4 {
		for v := range 256 {
			kind := []byte("pLTe")
			kind[i] = byte(v)
			b, e := Pack([]api.Chunk{{Kind: string(kind), Data: []byte{3}}})
			if strings.IndexByte(letters, byte(v)) < 0 {
				if len(b) != 0 || e != api.ErrArg {
					t.Fatal(kind, b, e)
				}
			} else if !bytes.Equal(b, row(slowChunk(string(kind), []byte{3}))) || e != api.OK {
				t.Fatal(kind, b, e)
			}
		}
	}
}

func TestP11_1PackLong(t *testing.T) {
	data := some(rand.New(rand.NewSource(202)), api.MaxFile+1)
	for name, c := range map[string]struct {
		list []api.Chunk
		e    api.Errno
	}{
		"one chunk, just so long":       {[]api.Chunk{{Kind: "IDAT", Data: data[:api.MaxFile-20]}}, api.OK},
		"one chunk, a byte more":        {[]api.Chunk{{Kind: "IDAT", Data: data[:api.MaxFile-19]}}, api.ErrLong},
		"MaxFile bytes of data":         {[]api.Chunk{{Kind: "IDAT", Data: data[:api.MaxFile]}}, api.ErrLong},
		"more than MaxFile bytes of it": {[]api.Chunk{{Kind: "IDAT", Data: data}}, api.ErrLong},
		"a long one behind":             {[]api.Chunk{{Kind: "IEND"}, {Kind: "IDAT", Data: data}}, api.ErrLong},
		"two, just so long":             {[]api.Chunk{{Kind: "IDAT", Data: data[:1<<19]}, {Kind: "IDAT", Data: data[:1<<19-32]}}, api.OK},
		"two, a byte more":              {[]api.Chunk{{Kind: "IDAT", Data: data[:1<<19]}, {Kind: "IDAT", Data: data[:1<<19-31]}}, api.ErrLong},
		"no room for a frame":           {[]api.Chunk{{Kind: "IDAT", Data: data[:api.MaxFile-31]}, {Kind: "IEND"}}, api.ErrLong},
		"just room for a frame":         {[]api.Chunk{{Kind: "IDAT", Data: data[:api.MaxFile-32]}, {Kind: "IEND"}}, api.OK},
	} {
		b, e := Pack(c.list)
		if e != c.e {
			t.Error(name, e)
		}
		if e != api.OK && len(b) != 0 || e == api.OK && len(b) != api.MaxFile {
			t.Error(name, len(b))
		}
	}
	for n, want := range map[int]api.Errno{87380: api.OK, 87381: api.ErrLong} {
		list := slices.Repeat([]api.Chunk{{Kind: "IEND"}}, n)
		if _, e := Pack(list); e != want {
			t.Error(n, "chunks without data", e)
		}
	}
}

// A kind that may not be is told ahead of all that is too long, wherever it stands.
func TestP11_1PackWhichErrorFirst(t *testing.T) {
	long := make([]byte, api.MaxFile+1)
	for _, list := range [][]api.Chunk{
		{{Kind: "IEN", Data: long}},
		{{Kind: "IDAT", Data: long}, {Kind: "IENDS"}},
		{{Kind: "IE1D"}, {Kind: "IDAT", Data: long}},
		{{Kind: "IDAT", Data: long[:1<<19]}, {Kind: "IDAT", Data: long[:1<<19]}, {Kind: "IDAT", Data: long[:1<<19]}, {}},
	} {
		if b, e := Pack(list); len(b) != 0 || e != api.ErrArg {
			t.Error(len(b), e)
		}
	}
}

func TestP11_1PackAnyChunks(t *testing.T) {
	rnd := rand.New(rand.NewSource(203))
	for range 500 {
		list := anyChunks(rnd, 6, 300)
		want := row()
		for _, c := range list {
			want = append(want, slowChunk(c.Kind, c.Data)...)
		}
		if b, e := Pack(list); !bytes.Equal(b, want) || e != api.OK {
			t.Fatal(list, b, e)
		}
	}
}

// Files of the library's are rows of chunks.
func TestP11_1LibrarysFile(t *testing.T) {
	img := image.NewNRGBA(image.Rect(0, 0, 40, 30))
	copy(img.Pix, some(rand.New(rand.NewSource(204)), len(img.Pix)))
	var file bytes.Buffer
	if err := png.Encode(&file, img); err != nil {
		t.Fatal(err)
	}
	r := New()
	pieces, e := r.Push(file.Bytes())
	list, ended := chunks(t, pieces)
	if e != api.OK || !ended || !r.Between() || list[0].Kind != "IHDR" || list[len(list)-1].Kind != "IEND" {
		t.Fatal(e, ended, pieces)
	}
	if b := mustPack(t, list); !bytes.Equal(b, file.Bytes()) {
		t.Fatal("packed otherwise")
	}
	asSlow(t, file.Bytes(), singly(file.Bytes())...)
}

// What is handed in stays as it was, its spare room too, and is not kept; what is answered is new.
func TestP11_1Handed(t *testing.T) {
	list := []api.Chunk{{Kind: "IHDR", Data: make([]byte, 13, 20)}, {Kind: "IDAT", Data: []byte{1, 2, 3, 4, 5}}, {Kind: "IEND"}}
	room := slices.Clone(list)
	before := slices.Clone(list[1].Data)
	full, e := Pack(room[:2])
	if e != api.OK || !slices.EqualFunc(room, list, sameChunk) || !bytes.Equal(list[1].Data, before) || !bytes.Equal(list[0].Data[:20], make([]byte, 20)) {
		t.Fatal("changed by Pack", e)
	}
	kept := slices.Clone(full)
	clear(list[1].Data)
	if !bytes.Equal(full, kept) {
		t.Fatal("shared by Pack")
	}
	for n := 1; n <= len(full); n++ {
		r := New()
		var got, copies []api.Piece
		for at := 0; at < len(full); at += n {
			part := full[at:min(at+n, len(full))]
			room := append(slices.Clone(part), 11, 12, 13)
			before := slices.Clone(room)
			more, e := r.Push(room[:len(part)])
			if e != api.OK || !bytes.Equal(room, before) {
				t.Fatal("changed by Push", n, e)
			}
			for _, p := range more {
				copies = append(copies, p)
				copies[len(copies)-1].Data = slices.Clone(p.Data)
			}
			got = append(got, more...)
			clear(room)
		}
		if !slices.EqualFunc(got, copies, samePiece) {
			t.Fatal("shared by Push", n)
		}
		list, ended := chunks(t, got)
		if b := mustPack(t, list); !bytes.Equal(b, full) || !ended {
			t.Fatal("kept by Push", n)
		}
	}
}

// No two lists of an answer share memory, their spare room neither, and none is used by a later push.
func TestP11_1AnswersAreNew(t *testing.T) {
	b := row(slowChunk("IDAT", []byte{1, 2, 3}), slowChunk("IDAT", []byte{4, 5, 6}), slowChunk("IDAT", []byte{7, 8, 9})[:10])
	before := slices.Clone(b)
	r := New()
	got, e := r.Push(b)
	if e != api.OK || len(got) != 3 {
		t.Fatal(got, e)
	}
	for i, p := range got {
		want := []byte{byte(3*i + 1), byte(3*i + 2), byte(3*i + 3)}[:len(p.Data)]
		if !bytes.Equal(p.Data, want) {
			t.Fatal(got)
		}
		clear(p.Data[:cap(p.Data)])
	}
	if !bytes.Equal(b, before) {
		t.Fatal("shared with what was handed in")
	}
	got[2].Data = got[2].Data[:cap(got[2].Data)]
	more, e := r.Push(slowChunk("IDAT", []byte{7, 8, 9})[10:])
	told(t, more, e, []api.Piece{{Kind: "IDAT", Size: 3, Data: []byte{9}, End: true}}, api.OK)
	for _, v := range got[2].Data {
		if v != 0 {
			t.Fatal("used again", got)
		}
	}
}

// Readers of their own don't depend on one another.
func TestP11_1TwoReaders(t *testing.T) {
	one, two := New(), New()
	c, d := slowChunk("IDAT", []byte{1, 2}), slowChunk("tEXt", []byte{3})
	one.Push(row(c[:9]))
	two.Push(row(d[:8]))
	got, e := one.Push(c[9:])
	told(t, got, e, []api.Piece{{Kind: "IDAT", Size: 2, Data: []byte{2}, End: true}}, api.OK)
	got, e = two.Push([]byte{3, 0, 0, 0, 0})
	told(t, got, e, []api.Piece{{Kind: "tEXt", Size: 1, Data: []byte{3}}}, api.ErrSum)
	if !one.Between() || two.Between() {
		t.Error(one.Between(), two.Between())
	}
}
