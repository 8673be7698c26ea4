package envelope

import (
	"pyxis/api"
	"pyxis/cborfeed"
	"pyxis/der"
	"pyxis/derfeed"
	"pyxis/jsonfeed"
	"pyxis/ring"
)

// feed is one of layers 18 to 20.
type feed interface {
	Write(s string) api.Errno
}

// Intake is what was written so far.
type Intake struct {
	lim  api.Limits
	text []byte
	feed feed // nil: there is none, or it isn't known which yet
	five bool // it is five texts with points
	e    api.Errno
}

// New makes an intake to which nothing was written.
func New(lim api.Limits) (*Intake, api.Errno) {
	if !der.May(lim) {
		return nil, api.ErrArg
	}
	return &Intake{lim: lim}, api.OK
}

func (x *Intake) none() bool {
	return x == nil || x.lim.Depth == 0
}

// Write takes what comes behind, till a fault. Of a text that is too long it keeps just so much that it is too long.
func (x *Intake) Write(s string) api.Errno {
	if x.none() {
		return api.ErrNil
	}
	if x.e != api.OK {
		return x.e
	}
	s = s[:min(len(s), x.lim.Bytes+1-len(x.text))]
	x.text = append(x.text, s...)
	if x.feed != nil {
		x.e = x.feed.Write(s)
		return x.e
	}
	x.choose(len(x.text) - len(s))
	switch {
	case x.feed != nil:
		x.e = x.feed.Write(string(x.text))
	case len(x.text) > x.lim.Bytes:
		x.e = api.ErrLimit
	}
	return x.e
}

// choose takes a feed by the format, if that can be told by the bytes from a place on; those ahead of it are blanks.
func (x *Intake) choose(from int) {
	if x.five || len(x.text) == 0 {
		return
	}
	switch ofText(string(x.text[:1])).(type) {
	case byTree:
		x.feed, _ = derfeed.New(x.lim)
		return
	case byItem:
		x.feed, _ = cborfeed.New(x.lim)
		return
	}
	for _, b := range x.text[from:] {
		switch b {
		case ' ', '\t', '\n', '\r':
			continue
		case '{':
			x.feed, _ = jsonfeed.New(x.lim)
		default:
			x.five = true
		}
		return
	}
}

// Open opens all that was written.
func (x *Intake) Open(r *ring.Ring, aad string) (string, api.Errno) {
	if x.none() {
		return "", api.ErrNil
	}
	return Open(string(x.text), r, aad, x.lim)
}
