package der

import (
	"strings"

	"pyxis/api"
	"pyxis/element"
	"pyxis/reading"
)

// begun is an element with elements that has not ended yet.
type begun struct {
	node, at, end int // its number in the list; the places where it begins and ends
	kids          int
	last          string // the bytes of the element that ended last in it
}

// reader is one reading.
type reader struct {
	reading.Text
	lim   api.Limits
	nodes []api.Node
	stack []begun
}

// Decode reads one tree; beside an error stands the fault's place.
func Decode(s string, lim api.Limits) (l []api.Node, at int, e api.Errno) {
	if !May(lim) {
		return nil, 0, api.ErrArg
	}
	defer func() {
		if x := recover(); x != nil {
			f := x.(reading.Fault) // another panic than a fault goes on
			l, at, e = nil, f.At, f.E
		}
	}()
	r := reader{Text: reading.New(s, lim.Bytes), lim: lim}
	r.tree()
	return r.nodes, 0, api.OK
}

func (r *reader) tree() {
	r.element()
	for len(r.stack) > 0 {
		top := r.stack[len(r.stack)-1]
		if r.Place() < top.end {
			r.element()
			continue
		}
		r.nodes[top.node].Kids = top.kids
		r.stack = r.stack[:len(r.stack)-1]
		r.ended(top.at)
	}
	if !r.Ended() {
		r.Next()
		reading.Fail(api.ErrForm, r.Place()-1)
	}
}

// element reads a whole one without elements, and begins one with elements.
func (r *reader) element() {
	at := r.Place()
	tag := r.Next()
	if len(r.nodes) >= r.lim.Items {
		reading.Fail(api.ErrLimit, at)
	}
	if e := element.Ask(tag); e != api.OK {
		reading.Fail(e, at)
	}
	if element.Within(tag) && len(r.stack) >= r.lim.Depth {
		reading.Fail(api.ErrLimit, at)
	}
	length := r.length()
	end := r.Place() + length
	if len(r.stack) > 0 && end > r.stack[len(r.stack)-1].end {
		reading.Fail(api.ErrForm, at)
	}
	if element.Within(tag) {
		r.stack = append(r.stack, begun{node: len(r.nodes), at: at, end: end})
		r.nodes = append(r.nodes, api.Node{Tag: tag})
		return
	}
	body := strings.Clone(r.Skip(end))
	if !element.Right(tag, body) {
		reading.Fail(api.ErrForm, at)
	}
	r.nodes = append(r.nodes, api.Node{Tag: tag, Kids: -1, Body: body})
	r.ended(at)
}

// length reads one that is told in as few bytes as it takes.
func (r *reader) length() int {
	at := r.Place()
	first := r.Next()
	if first < 128 {
		return int(first)
	}
	if first == 128 || first > 132 {
		reading.Fail(api.ErrForm, at)
	}
	length := 0
	for i := range int(first - 128) {
		b := r.Next()
		if i == 0 && b == 0 {
			reading.Fail(api.ErrForm, r.Place()-1)
		}
		length = length<<8 | int(b)
	}
	if length < 128 {
		reading.Fail(api.ErrForm, r.Place()-1)
	}
	return length
}

// ended tells the element in which one stands that this one has ended.
func (r *reader) ended(at int) {
	if len(r.stack) == 0 {
		return
	}
	outer := &r.stack[len(r.stack)-1]
	if r.nodes[outer.node].Tag == element.Set {
		whole := r.Part(at, r.Place())
		if outer.kids > 0 && outer.last > whole {
			reading.Fail(api.ErrForm, at)
		}
		outer.last = whole
	}
	outer.kids++
}
