package der

import (
	"strings"

	"pyxis/api"
)

// fault is what a reading is left with, by a panic.
type fault struct {
	e  api.Errno
	at int
}

// begun is an element with elements that has not ended yet.
type begun struct {
	node, at, end int // its number in the list; the places where it begins and ends
	last          string
	kids          int
}

// reader is one reading.
type reader struct {
	text  string
	lim   api.Limits
	place int
	nodes []api.Node
	stack []begun
}

// Decode reads one tree; beside an error stands the fault's place.
func Decode(s string, lim api.Limits) (l []api.Node, at int, e api.Errno) {
	if !May(lim) {
		return nil, 0, api.ErrArg
	}
	defer func() {
		if x := recover(); x != nil {
			f := x.(fault) // another panic than a fault goes on
			l, at, e = nil, f.at, f.e
		}
	}()
	r := reader{text: s, lim: lim}
	r.tree()
	return r.nodes, 0, api.OK
}

func fail(e api.Errno, at int) {
	panic(fault{e, at})
}

// want asks for the bytes from a place to another one: for the first one that is not there, or not allowed.
func (r *reader) want(from, to int) {
	if from >= to || to <= len(r.text) && to <= r.lim.Bytes {
		return
	}
	if len(r.text) <= r.lim.Bytes {
		fail(api.ErrForm, len(r.text))
	}
	fail(api.ErrLimit, r.lim.Bytes)
}

// next takes one byte.
func (r *reader) next() byte {
	r.want(r.place, r.place+1)
	r.place++
	return r.text[r.place-1]
}

func (r *reader) tree() {
	r.element()
	for len(r.stack) > 0 {
		top := r.stack[len(r.stack)-1]
		if r.place < top.end {
			r.element()
			continue
		}
		r.nodes[top.node].Kids = top.kids
		r.stack = r.stack[:len(r.stack)-1]
		r.ended(top.at)
	}
	if r.place < len(r.text) {
		r.next()
		fail(api.ErrForm, r.place-1)
	}
}

// element reads a whole one without elements, and begins one with elements.
func (r *reader) element() {
	at := r.place
	tag := r.next()
	if len(r.nodes) >= r.lim.Items {
		fail(api.ErrLimit, at)
	}
	if e := askTag(tag); e != api.OK {
		fail(e, at)
	}
	if tag&composed != 0 && len(r.stack) >= r.lim.Depth {
		fail(api.ErrLimit, at)
	}
	length := r.length()
	end := r.place + length
	if len(r.stack) > 0 && end > r.stack[len(r.stack)-1].end {
		fail(api.ErrForm, at)
	}
	if tag&composed != 0 {
		r.stack = append(r.stack, begun{node: len(r.nodes), at: at, end: end})
		r.nodes = append(r.nodes, api.Node{Tag: tag})
		return
	}
	r.want(r.place, end)
	body := strings.Clone(r.text[r.place:end])
	if !right(tag, body) {
		fail(api.ErrForm, at)
	}
	r.nodes = append(r.nodes, api.Node{Tag: tag, Kids: -1, Body: body})
	r.place = end
	r.ended(at)
}

// length reads one that is told in as few bytes as it takes.
func (r *reader) length() int {
	at := r.place
	first := r.next()
	if first < 128 {
		return int(first)
	}
	if first == 128 || first > 132 {
		fail(api.ErrForm, at)
	}
	length := 0
	for i := range int(first - 128) {
		b := r.next()
		if i == 0 && b == 0 {
			fail(api.ErrForm, r.place-1)
		}
		length = length<<8 | int(b)
	}
	if length < 128 {
		fail(api.ErrForm, r.place-1)
	}
	return length
}

// ended tells the element in which one stands that this one has ended.
func (r *reader) ended(at int) {
	if len(r.stack) == 0 {
		return
	}
	outer := &r.stack[len(r.stack)-1]
	if r.nodes[outer.node].Tag == set {
		whole := r.text[at:r.place]
		if outer.kids > 0 && outer.last > whole {
			fail(api.ErrForm, at)
		}
		outer.last = whole
	}
	outer.kids++
}
