package item

import (
	"pyxis/api"
)

// Holds says whether a kind's items hold others.
func Holds(kind int) bool {
	return kind == api.CArray || kind == api.CMap || kind == api.CTag
}

// Holder is an item that holds others, and has not ended yet.
type Holder struct {
	at    int    // where it begins
	left  uint64 // how many items, of a map pairs, have not ended yet
	pairs bool   // it is a map
	value bool   // of a map: what comes next is a value
	keys  bool   // of a map: a key ended already, the last one being last
	last  string
}

// Hold begins one, by its place, kind and number.
func Hold(at, kind int, num uint64) Holder {
	if kind == api.CTag {
		num = 1
	}
	return Holder{at: at, left: num, pairs: kind == api.CMap}
}

// At tells where it begins.
func (h *Holder) At() int {
	return h.at
}

// Full says whether all that it holds has ended.
func (h *Holder) Full() bool {
	return h.left == 0
}

// WantsKey says whether what comes next is a key.
func (h *Holder) WantsKey() bool {
	return h.pairs && !h.value
}

// Key takes a key that ended, by its bytes, and says whether it comes behind the one ahead.
func (h *Holder) Key(whole string) bool {
	ordered := !h.keys || whole > h.last
	h.keys, h.value, h.last = true, true, whole
	return ordered
}

// Other takes an item that ended and is no key.
func (h *Holder) Other() {
	h.value = false
	h.left--
}
