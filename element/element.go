// Package element tells which tags and bodies of DER's elements are right, as chapter 15 has it.
package element

import (
	"unicode/utf8"

	"pyxis/api"
)

// Set is the tag of elements in order.
const Set = 0x31

// Within says whether a tag says that the body is elements.
func Within(tag byte) bool {
	return tag&0x20 != 0
}

// Ask says what is wrong with a tag.
func Ask(tag byte) api.Errno {
	class, number := tag>>6, tag&31
	if class%2 == 1 || number == 31 {
		return api.ErrKind
	}
	if class == 2 {
		return api.OK
	}
	within := false
	switch number {
	case 1, 2, 3, 4, 5, 6, 12:
	case 16, 17:
		within = true
	default:
		return api.ErrKind
	}
	if within != Within(tag) {
		return api.ErrForm
	}
	return api.OK
}

// Right says whether a body without elements is.
func Right(tag byte, body string) bool {
	switch tag {
	case 1:
		return body == "\x00" || body == "\xff"
	case 2:
		return rightNumber(body)
	case 3:
		return rightBits(body)
	case 5:
		return body == ""
	case 6:
		return rightType(body)
	case 12:
		return utf8.ValidString(body)
	}
	return true
}

// rightNumber: the first nine bits aren't all alike.
func rightNumber(body string) bool {
	if len(body) < 2 {
		return body != ""
	}
	next := body[1] >= 128
	return !(body[0] == 0 && !next) && !(body[0] == 255 && next)
}

// rightBits: the first byte says how many bits of the last one are none.
func rightBits(body string) bool {
	if body == "" || body[0] > 7 {
		return false
	}
	if len(body) == 1 {
		return body[0] == 0
	}
	return body[len(body)-1]&(1<<body[0]-1) == 0
}

// rightType: numbers of seven bits a byte, each in as few bytes as it takes.
func rightType(body string) bool {
	begins := true
	for i := range len(body) {
		if begins && body[i] == 128 {
			return false
		}
		begins = body[i] < 128
	}
	return body != "" && begins
}
