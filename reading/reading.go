// Package reading asks for the bytes of a text one by one, within a limit: it is what chapter 15 calls to want. Layers 15 to 17 read by it.
package reading

import (
	"pyxis/api"
)

// Fault is what a reading is left with, by a panic; whoever reads catches it.
type Fault struct {
	E  api.Errno
	At int
}

// Fail leaves the reading.
func Fail(e api.Errno, at int) {
	panic(Fault{e, at})
}

// Text is a text, and how far it was read.
type Text struct {
	whole string
	limit int // no byte is wanted at this place, or behind it
	place int
}

// New begins to read.
func New(s string, limit int) Text {
	return Text{whole: s, limit: limit}
}

// Place tells where the next byte stands.
func (t *Text) Place() int {
	return t.place
}

// Ended says whether there is no byte any more, wanted or not.
func (t *Text) Ended() bool {
	return t.place >= len(t.whole)
}

// Part tells what stands between two places.
func (t *Text) Part(from, to int) string {
	return t.whole[from:to]
}

// Peek wants the next byte, and stays ahead of it.
func (t *Text) Peek() byte {
	t.want(t.place + 1)
	return t.whole[t.place]
}

// Next wants the next byte, and passes it.
func (t *Text) Next() byte {
	b := t.Peek()
	t.place++
	return b
}

// Skip wants all bytes up to a place, one by one, and tells them.
func (t *Text) Skip(to int) string {
	t.want(to)
	from := t.place
	t.place = to
	return t.whole[from:to]
}

// Open says whether there is a next byte at a place below the limit.
func (t *Text) Open() bool {
	return t.place < len(t.whole) && t.place < t.limit
}

// want fails at the first place, of those up to one, that has no byte, or may have none.
func (t *Text) want(to int) {
	if to <= len(t.whole) && to <= t.limit {
		return
	}
	if len(t.whole) <= t.limit {
		Fail(api.ErrForm, len(t.whole))
	}
	Fail(api.ErrLimit, t.limit)
}
