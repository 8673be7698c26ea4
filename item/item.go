// Package item tells which heads of CBOR's items are right, as chapter 17 has it. Layers 17 and 20 read by it.
package item

import (
	"pyxis/api"
)

// Kind is that of the item that begins with a byte.
func Kind(first byte) int {
	return int(first >> 5)
}

// Ask says how many bytes of an argument stand behind the first byte, or what is wrong with it.
func Ask(first byte) (int, api.Errno) {
	a := first & 31
	switch {
	case a > 27:
		return 0, api.ErrForm
	case Kind(first) == api.CSimple && (a < 20 || a > 23):
		return 0, api.ErrKind
	case a < 24:
		return 0, api.OK
	}
	return 1 << (a - 24), api.OK
}

// Shortest says whether an argument couldn't be told in fewer bytes behind the first one.
func Shortest(bytes int, argument uint64) bool {
	switch bytes {
	case 1:
		return argument >= 24
	case 2, 4, 8:
		return argument>>(4*bytes) != 0
	}
	return true
}
