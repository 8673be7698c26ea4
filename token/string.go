package token

import (
	"unicode/utf8"
)

// Where a string is.
const (
	plain   = iota
	escaped // behind a \
	hex     // among the four digits behind a u
	slash   // behind the first half of a sign, where \ must follow
	mark    // behind that \, where u must follow
	further // within a sign of UTF-8
)

// String is one behind its first ".
type String struct {
	where     int
	text      []byte
	left      int  // digits, or bytes of a sign, still to come
	number    rune // of the digits so far
	half      rune // the first half of a sign that has two, else 0
	low, high byte // the bytes with which a sign of UTF-8 may go on
}

// Text is what was told so far.
func (s *String) Text() string {
	return string(s.text)
}

// Take takes the next byte.
func (s *String) Take(b byte) Step {
	switch s.where {
	case plain:
		return s.plain(b)
	case escaped:
		return s.escaped(b)
	case hex:
		return s.digit(b)
	case slash:
		return s.follow(b, '\\', mark)
	case mark:
		s.begin()
		return s.follow(b, 'u', hex)
	}
	return s.further(b)
}

func (s *String) plain(b byte) Step {
	switch {
	case b == '"':
		return Done
	case b < 0x20:
		return Bad
	case b == '\\':
		s.where = escaped
		return More
	case b < utf8.RuneSelf:
		return s.tell(b)
	}
	return s.sign(b)
}

// tell goes on behind a byte that the string has.
func (s *String) tell(b byte) Step {
	s.text = append(s.text, b)
	s.where = plain
	return More
}

// sign begins a sign of UTF-8; no other one is longer than it must be, half of one, or above the last one.
func (s *String) sign(b byte) Step {
	s.low, s.high = 0x80, 0xbf
	switch {
	case b >= 0xc2 && b <= 0xdf:
		s.left = 1
	case b >= 0xe0 && b <= 0xef:
		s.left = 2
	case b >= 0xf0 && b <= 0xf4:
		s.left = 3
	default:
		return Bad
	}
	switch b {
	case 0xe0:
		s.low = 0xa0
	case 0xed:
		s.high = 0x9f
	case 0xf0:
		s.low = 0x90
	case 0xf4:
		s.high = 0x8f
	}
	s.text = append(s.text, b)
	s.where = further
	return More
}

func (s *String) further(b byte) Step {
	if b < s.low || b > s.high {
		return Bad
	}
	s.low, s.high = 0x80, 0xbf
	s.text = append(s.text, b)
	s.left--
	if s.left == 0 {
		s.where = plain
	}
	return More
}

func (s *String) escaped(b byte) Step {
	switch b {
	case '"', '\\', '/':
		return s.tell(b)
	case 'b':
		return s.tell(8)
	case 'f':
		return s.tell(12)
	case 'n':
		return s.tell(10)
	case 'r':
		return s.tell(13)
	case 't':
		return s.tell(9)
	case 'u':
		s.begin()
		s.where = hex
		return More
	}
	return Bad
}

// begin has four digits to come.
func (s *String) begin() {
	s.left, s.number = 4, 0
}

// follow asks for the one byte that may stand there.
func (s *String) follow(b, wanted byte, next int) Step {
	if b != wanted {
		return Bad
	}
	s.where = next
	return More
}

func (s *String) digit(b byte) Step {
	value := rune(0)
	switch {
	case b >= '0' && b <= '9':
		value = rune(b - '0')
	case b >= 'a' && b <= 'f':
		value = rune(b-'a') + 10
	case b >= 'A' && b <= 'F':
		value = rune(b-'A') + 10
	default:
		return Bad
	}
	s.number = s.number<<4 | value
	s.left--
	if s.left > 0 {
		return More
	}
	return s.numbered()
}

// numbered ends four digits: they are a sign, a first half, or the second half behind one.
func (s *String) numbered() Step {
	second := s.number >= 0xdc00 && s.number <= 0xdfff
	if second != (s.half != 0) {
		return Bad
	}
	if s.number >= 0xd800 && s.number <= 0xdbff {
		s.half = s.number
		s.where = slash
		return More
	}
	if second {
		s.number += 0x10000 + (s.half-0xd800)<<10 - 0xdc00
		s.half = 0
	}
	s.text = utf8.AppendRune(s.text, s.number)
	s.where = plain
	return More
}
