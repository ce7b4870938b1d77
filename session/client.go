package session

import (
	"slices"

	"halftone/api"
	"halftone/canvas"
	"halftone/receiver"
	"halftone/segment"
	"halftone/sender"
	"halftone/token"
)

// Client shows what has come.
type Client struct {
	side
	store   *token.Store
	state   int
	code    int
	have    api.Token // of which file, of which sum, and with which bytes it asks, and then what is there of it
	offer   api.Msg
	in      *receiver.Receiver // nil, as long as there is no offer
	marked  int                // the first item that hadn't come when the token was put last, or at the offer
	picture picture
}

// NewClient is a client that is off.
func NewClient(store *token.Store, s api.Setup) (*Client, api.Errno) {
	if !mayBe(s) || store == nil {
		return nil, api.ErrArg
	}
	return &Client{side: side{setup: s}, store: store}, api.OK
}

// Start begins to ask.
func (c *Client) Start(boot uint32, file int) api.Errno {
	if c == nil {
		return api.ErrArg
	}
	c.store.Settle()
	switch {
	case c.state != api.Off:
		return api.ErrBusy
	case file < 0 || file >= api.MaxFiles:
		return api.ErrArg
	}
	c.state, c.boot = api.Asking, boot
	c.have = kept(c.store, file)
	c.out, _ = sender.New(1, 1, c.setup.First, c.setup.Most)
	return api.OK
}

// kept is the token of a file that is in a store; one without bytes and without a sum, if there is none.
func kept(store *token.Store, file int) api.Token {
	if t, e := token.Read(store.Get()); e == api.OK && t.File == file {
		return t
	}
	return api.Token{File: file}
}

// Tick lets time go on.
func (c *Client) Tick() [][]byte {
	if c == nil {
		return nil
	}
	c.store.Settle()
	return c.written(c.due(c.ask))
}

// ask is the message of the only item that a client sends.
func (c *Client) ask(int) api.Msg {
	return api.Msg{Kind: api.KindAsk, File: c.have.File, Sum: c.have.Sum, At: len(c.have.Data)}
}

// Recv takes a message.
func (c *Client) Recv(b []byte) [][]byte {
	if c == nil {
		return nil
	}
	c.store.Settle()
	m, e := segment.Read(b)
	if e != api.OK || m.Boot != c.boot {
		return nil
	}
	switch c.state {
	case api.Asking:
		return c.answered(m)
	case api.Getting, api.Done:
		return c.sent(m)
	}
	return nil
}

// answered takes what may be the answer to the ask.
func (c *Client) answered(m api.Msg) [][]byte {
	if m.File != c.have.File {
		return nil
	}
	switch m.Kind {
	case api.KindNo:
		c.state, c.code = api.Refused, m.Code
		c.out, c.have = nil, api.Token{}
	case api.KindOffer:
		if m.At == 0 || m.At == len(c.have.Data) && m.Sum == c.have.Sum {
			c.begin(m)
			return c.outcome()
		}
	}
	return nil
}

// begin takes an offer: item 0 has come with it.
func (c *Client) begin(m api.Msg) {
	c.state, c.out, c.offer = api.Getting, nil, m
	c.have.Sum = m.Sum
	if m.At == 0 {
		c.have.Data = nil
	}
	c.picture = newPicture()
	c.picture.push(c.have.Data)
	c.in, _ = receiver.New(items(m), c.setup.Window)
	c.in.Take(0, nil)
	c.marked = c.in.Next()
}

// sent takes what may be an item.
func (c *Client) sent(m api.Msg) [][]byte {
	switch {
	case m.Kind == api.KindOffer:
		c.take(0, nil)
	case m.Kind == api.KindData && m.Index >= 1 && len(m.Data) == c.length(m.Index):
		c.take(m.Index, m.Data)
	default:
		return nil
	}
	return c.outcome()
}

// length is how many bytes a segment has; 0 or less behind the last one.
func (c *Client) length(i int) int {
	return min(c.offer.Body, c.offer.Size-c.offer.At-(i-1)*c.offer.Body)
}

// take takes an item.
func (c *Client) take(i int, data []byte) {
	told, _ := c.in.Take(i, data)
	b := slices.Concat(told...)
	c.have.Data = append(c.have.Data, b...)
	c.picture.push(b)
}

// outcome is what is answered when an item has come, or had come already.
func (c *Client) outcome() [][]byte {
	all := c.in.Done()
	if c.picture.wrong != api.OK || all && !c.picture.isWhole(c.have.Sum) {
		c.state = api.Broken
		return nil
	}
	if all && c.state != api.Done || c.in.Next()-c.marked >= c.setup.Every {
		c.mark()
	}
	if all {
		c.state = api.Done
	}
	return c.answer(api.Msg{Kind: api.KindAck, Index: c.in.Next(), Ranges: c.in.Ranges()})
}

// mark puts what is there into the store.
func (c *Client) mark() {
	b, _ := token.Write(c.have)
	c.store.Put(b)
	c.marked = c.in.Next()
}

// State is the client's state.
func (c *Client) State() int {
	if c == nil {
		return 0
	}
	return c.state
}

// Code is why it was refused.
func (c *Client) Code() int {
	if c == nil {
		return 0
	}
	return c.code
}

// From is from where on the offer was.
func (c *Client) From() int {
	if c == nil {
		return 0
	}
	return c.offer.At
}

// Offset is how many bytes are there in order.
func (c *Client) Offset() int {
	// Ahead of the offer it isn't said yet that the token's bytes are the file's.
	if c == nil || c.in == nil {
		return 0
	}
	return len(c.have.Data)
}

// Held is how many segments are held.
func (c *Client) Held() int {
	if c == nil {
		return 0
	}
	return c.in.Held()
}

// Canvas is a canvas like the client's.
func (c *Client) Canvas() *canvas.Canvas {
	if c == nil {
		return nil
	}
	return like(c.picture.canvas)
}
