package cbor

import (
	"strings"
	"unicode/utf8"

	"pyxis/api"
	"pyxis/der"
	"pyxis/item"
	"pyxis/reading"
)

// reader is one reading.
type reader struct {
	reading.Text
	lim   api.Limits
	atoms []api.Atom
	stack []item.Holder
}

// Decode reads one item; beside an error stands the fault's place.
func Decode(s string, lim api.Limits) (l []api.Atom, at int, e api.Errno) {
	if !der.May(lim) {
		return nil, 0, api.ErrArg
	}
	defer func() {
		if x := recover(); x != nil {
			f := x.(reading.Fault) // another panic than a fault goes on
			l, at, e = nil, f.At, f.E
		}
	}()
	r := reader{Text: reading.New(s, lim.Bytes), lim: lim}
	r.whole()
	return r.atoms, 0, api.OK
}

func (r *reader) whole() {
	r.item()
	for len(r.stack) > 0 {
		top := r.stack[len(r.stack)-1]
		if !top.Full() {
			r.item()
			continue
		}
		r.stack = r.stack[:len(r.stack)-1]
		r.ended(top.At())
	}
	if !r.Ended() {
		r.Next()
		reading.Fail(api.ErrForm, r.Place()-1)
	}
}

// item reads a whole one that holds no others, and begins one that does.
func (r *reader) item() {
	at := r.Place()
	first := r.Next()
	if len(r.atoms) >= r.lim.Items {
		reading.Fail(api.ErrLimit, at)
	}
	argument := r.argument(first)
	atom := api.Atom{Kind: item.Kind(first), Num: argument}
	if atom.Kind == api.CBytes || atom.Kind == api.CText {
		length := lesser(argument, api.MaxBytes+1) // of more bytes than that the first ones are wanted in vain
		atom.Num, atom.Text = 0, strings.Clone(r.Skip(r.Place()+int(length)))
	}
	if atom.Kind == api.CText && !utf8.ValidString(atom.Text) {
		reading.Fail(api.ErrForm, at)
	}
	if item.Holds(atom.Kind) && len(r.stack) >= r.lim.Depth {
		reading.Fail(api.ErrLimit, at)
	}
	r.atoms = append(r.atoms, atom)
	if item.Holds(atom.Kind) {
		r.stack = append(r.stack, item.Hold(at, atom.Kind, argument))
		return
	}
	r.ended(at)
}

// argument reads what stands behind the first byte of a head, and asks whether that is right.
func (r *reader) argument(first byte) uint64 {
	at := r.Place() - 1
	bytes, e := item.Ask(first)
	if e != api.OK {
		reading.Fail(e, at)
	}
	argument := uint64(first & 31)
	if bytes > 0 {
		argument = 0
	}
	for range bytes {
		argument = argument<<8 | uint64(r.Next())
	}
	if !item.Shortest(bytes, argument) {
		reading.Fail(api.ErrForm, at)
	}
	return argument
}

// ended hands an item to the one that holds it.
func (r *reader) ended(at int) {
	if len(r.stack) == 0 {
		return
	}
	top := &r.stack[len(r.stack)-1]
	if !top.WantsKey() {
		top.Other()
	} else if !top.Key(r.Part(at, r.Place())) {
		reading.Fail(api.ErrForm, at)
	}
}

// lesser is the lesser of two numbers.
func lesser[T int | uint64](a, b T) T {
	if a < b {
		return a
	}
	return b
}
