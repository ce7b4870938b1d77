package session

import (
	"slices"

	"halftone/api"
	"halftone/crc"
	"halftone/front"
	"halftone/segment"
	"halftone/sender"
)

// noPass stands for a pass where no line is left.
const noPass = 8

// Server has a catalogue, and sends.
type Server struct {
	side
	files   [][]byte
	met     bool    // whether there was an ask: a boot may be 0, too
	refusal api.Msg // what the boot was answered, if it was refused; else it has no kind
	transfer
}

// transfer is a file that is sent.
type transfer struct {
	offer  api.Msg
	rest   []byte // the file from where the offer is on
	passes []int  // of each segment
}

// NewServer is a server without a boot.
func NewServer(files [][]byte, s api.Setup) (*Server, api.Errno) {
	if !mayBe(s) || len(files) > api.MaxFiles {
		return nil, api.ErrArg
	}
	v := &Server{side: side{setup: s}}
	for _, b := range files {
		v.files = append(v.files, slices.Clone(b))
	}
	return v, api.OK
}

// Recv takes a message.
func (v *Server) Recv(b []byte) [][]byte {
	if v == nil {
		return nil
	}
	m, e := segment.Read(b)
	switch {
	case e != api.OK:
		return nil
	case m.Kind == api.KindAsk:
		return v.asked(m)
	case m.Kind == api.KindAck && m.Boot == v.boot:
		v.out.Ack(m.Index, m.Ranges)
	}
	return nil
}

// Tick lets time go on.
func (v *Server) Tick() [][]byte {
	if v == nil {
		return nil
	}
	return v.written(v.due(v.item))
}

// Busy asks whether there is a transfer that isn't done.
func (v *Server) Busy() bool { return v != nil && v.out != nil && !v.out.Done() }

// asked takes an ask. One of its boot it has answered, and its client may have missed only a refusal: the offer is sent again by itself.
func (v *Server) asked(m api.Msg) [][]byte {
	if !v.met || m.Boot > v.boot {
		v.begin(m)
	}
	if m.Boot == v.boot && v.refusal.Kind == api.KindNo {
		return v.answer(v.refusal)
	}
	return nil
}

// begin is a new boot's: nothing is left of what was ahead of it.
func (v *Server) begin(m api.Msg) {
	*v = Server{side: side{setup: v.setup, boot: m.Boot}, files: v.files, met: true}
	if m.File >= len(v.files) {
		v.refuse(m.File, api.ErrMissing)
		return
	}
	file := v.files[m.File]
	lines, e := front.Lines(file)
	if e != api.OK {
		v.refuse(m.File, e)
		return
	}
	offer := api.Msg{Kind: api.KindOffer, File: m.File, Sum: crc.Of(file), Size: len(file), Body: v.setup.Body}
	if m.Sum == offer.Sum && m.At <= offer.Size {
		offer.At = m.At
	}
	v.transfer = transfer{offer: offer, rest: file[offer.At:], passes: passes(file, lines, offer)}
	v.out, _ = sender.New(items(offer), v.setup.Window, v.setup.First, v.setup.Most)
}

func (v *Server) refuse(file int, why api.Errno) {
	v.refusal = api.Msg{Kind: api.KindNo, File: file, Code: int(why)}
}

// item is the message of an item.
func (t *transfer) item(i int) api.Msg {
	if i == 0 {
		return t.offer
	}
	at := (i - 1) * t.offer.Body
	data := t.rest[at:min(at+t.offer.Body, len(t.rest))]
	return api.Msg{Kind: api.KindData, Index: i, Pass: t.passes[i-1], Data: data}
}

// passes are those of an offer's segments: of each the pass of the first line that the file's bytes ahead of it don't tell.
func passes(file []byte, lines []api.Line, offer api.Msg) []int {
	f := front.New()
	f.Push(file[:offer.At])
	var list []int
segments:
	for b := range slices.Chunk(file[offer.At:], offer.Body) {
		told := f.Told()
		if told == len(lines) {
			// Nothing that the front would be told could change this.
			list = append(list, noPass)
			continue segments
		}
		list = append(list, lines[told].Pass)
		f.Push(b)
	}
	return list
}
