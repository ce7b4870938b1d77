package gif

import (
	"slices"

	"halftone/api"
	"halftone/blocks"
	"halftone/lzw"
	"halftone/screen"
)

// What stands ahead of a part.
const (
	extensionMark = 33
	pictureMark   = 44
	endMark       = 59
)

const (
	coverLabel = 249 // of the extension that layer 17 looks at
	coverSize  = 8   // how many bytes it has, all with all, if it is right
)

// As which kind of colours, and of which depth, a GIF's are told.
const (
	listed = 3
	depth  = 8
)

const (
	fullCover = 255
	noCover   = 0
)

// beginning is what was read of it, without the extensions that say nothing: what layer 17 answers to it, it would answer to all that came.
type beginning struct {
	kept  []byte
	ahead int // how many of these bytes stand ahead of the extension that is kept, if one is
}

// open goes on with a byte of the beginning.
func (d *Decoder) open(v byte) api.Errno {
	if v == extensionMark && d.betweenParts() {
		d.state = naming
		return api.OK
	}
	d.kept = append(d.kept, v)
	return d.ask()
}

// betweenParts asks layer 17 where the beginning stands: nowhere but ahead of a part would the file's end say that there is no picture.
func (s *beginning) betweenParts() bool {
	_, _, e := screen.Read(append(slices.Clone(s.kept), endMark))
	return e == api.ErrMissing
}

// ask asks layer 17 whether the beginning is there, or wrong.
func (d *Decoder) ask() api.Errno {
	s, _, e := screen.Read(d.kept)
	switch e {
	case api.OK:
		d.begin(s)
	case api.ErrShort:
		return api.OK
	}
	return e
}

// begin goes on to the picture.
func (d *Decoder) begin(s api.Screen) {
	h := api.Head{W: s.W, H: s.H, Color: listed, Depth: depth, Laced: s.Laced}
	d.raster = api.Raster{Head: h, Tints: s.Tints, Alpha: cover(s)}
	d.known = true
	d.beginning = beginning{}
	d.parts = blocks.New()
	d.codes = lzw.New(s.Bits, s.W*s.H)
	d.lines = linesOf(h)
	d.state = drawing
}

// cover is how much the first colours cover, up to the one that covers nothing; none, if there isn't one.
func cover(s api.Screen) []int {
	if s.Clear < 0 || s.Clear >= len(s.Tints) {
		return nil
	}
	return append(slices.Repeat([]int{fullCover}, s.Clear), noCover)
}

// extension is one that is being read.
type extension struct {
	bytes []byte // its first ones: one more than layer 17 could take
	parts *blocks.Reader
}

// newExtension is one of which no more than the label is there.
func newExtension(label byte) extension {
	return extension{bytes: []byte{extensionMark, label}, parts: blocks.New()}
}

// push goes on with a byte of its blocks.
func (x *extension) push(v byte) {
	x.parts.Push([]byte{v})
	if len(x.bytes) <= coverSize {
		x.bytes = append(x.bytes, v)
	}
}

func (x *extension) done() bool { return x.parts.Done() }

// says is the extension as layer 17 is to see it: nothing, if it doesn't look at it. One that is too long is wrong, as one without a block is.
func (x *extension) says() []byte {
	switch {
	case x.bytes[1] != coverLabel:
		return nil
	case len(x.bytes) > coverSize:
		return []byte{extensionMark, coverLabel, 0}
	}
	return x.bytes
}

// closeAside ends an extension: the beginning goes on, or what stands behind the picture.
func (d *Decoder) closeAside() api.Errno {
	said := d.aside.says()
	d.aside = extension{}
	if d.known {
		d.state = turning
		return api.OK
	}
	d.state = opening
	return d.replace(said)
}

// replace keeps an extension in the place of the one ahead of it: of several the last one counts.
func (d *Decoder) replace(said []byte) api.Errno {
	if len(said) == 0 {
		return api.OK
	}
	if d.ahead == 0 {
		d.ahead = len(d.kept)
	}
	d.kept = append(d.kept[:d.ahead], said...)
	return d.ask()
}
