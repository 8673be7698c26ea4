package cms

import (
	"pyxis/api"
)

// fault is what is wrong with a tree.
type fault struct {
	e api.Errno
}

func (f *fault) Error() string {
	return f.e.Error()
}

// cursor goes through a tree in the order of its bytes. Behind the first fault it stays where it is.
type cursor struct {
	nodes []api.Node
	at    int // the next element's place in the list
	left  int // how many elements are still to come in the one that is gone through
	err   error
}

func newCursor(nodes []api.Node) *cursor {
	return &cursor{nodes: nodes, left: 1}
}

func (c *cursor) fail(e api.Errno) {
	if c.err == nil {
		c.err = &fault{e}
	}
}

// more says whether an element is left.
func (c *cursor) more() bool {
	return c.err == nil && c.left > 0
}

// stands says whether the next element has that tag.
func (c *cursor) stands(tag byte) bool {
	return c.more() && c.nodes[c.at].Tag == tag
}

// ask fails, unless what is asked holds.
func (c *cursor) ask(holds bool, e api.Errno) {
	if !holds {
		c.fail(e)
	}
}

// leaf hands the body of an element with that tag on.
func (c *cursor) leaf(tag byte, take func(body string)) {
	if !c.stands(tag) {
		c.fail(api.ErrForm)
		return
	}
	body := c.nodes[c.at].Body
	c.at++
	c.left--
	take(body)
}

// is asks for an element with that tag and body.
func (c *cursor) is(tag byte, body string, e api.Errno) {
	c.leaf(tag, func(found string) {
		c.ask(found == body, e)
	})
}

// within goes through the elements of one with that tag; none may be left behind.
func (c *cursor) within(tag byte, walk func()) {
	if !c.stands(tag) {
		c.fail(api.ErrForm)
		return
	}
	outer := c.left - 1
	c.left = c.nodes[c.at].Kids
	c.at++
	walk()
	c.ask(c.left == 0, api.ErrForm)
	c.left = outer
}

// each goes through all elements that are left, one at least.
func (c *cursor) each(walk func()) {
	c.ask(c.more(), api.ErrForm)
	for c.more() {
		walk()
	}
}

// pass passes an element, with all that it holds.
func (c *cursor) pass() {
	c.left--
	for wanted := 1; wanted > 0; c.at++ {
		wanted += max(c.nodes[c.at].Kids, 0) - 1
	}
}
