// Package octet is layer 1: bytes as texts. See shared/doc/01-octet.md.
package octet

import (
	"pyxis/api"
)

const signs = "0123456789abcdef"

// Same looks at all bytes wherever the first difference is, so that the time it takes tells nothing of a tag.
func Same(a, b string) bool {
	if len(a) != len(b) {
		return false
	}
	unlike := byte(0)
	for i := range len(a) {
		unlike |= a[i] ^ b[i]
	}
	return unlike == 0
}

// Xor is as long as the shorter of both.
func Xor(a, b string) string {
	out := make([]byte, min(len(a), len(b)))
	for i := range len(out) {
		out[i] = a[i] ^ b[i]
	}
	return string(out)
}

// Put tells a number in so many bytes, the highest first.
func Put(n uint64, width int) (string, api.Errno) {
	if width < 1 || width > 8 {
		return "", api.ErrArg
	}
	out := make([]byte, width)
	for i := range width {
		out[width-1-i] = byte(n)
		n >>= 8
	}
	if n != 0 {
		return "", api.ErrArg
	}
	return string(out), api.OK
}

// Get is the number that Put tells.
func Get(s string) (uint64, api.Errno) {
	if len(s) < 1 || len(s) > 8 {
		return 0, api.ErrSize
	}
	n := uint64(0)
	for i := range len(s) {
		n = n<<8 | uint64(s[i])
	}
	return n, api.OK
}

// Add goes round at the length of s.
func Add(s string, n uint64) string {
	out := make([]byte, len(s))
	for i := range len(s) {
		at := len(s) - 1 - i
		low := byte(n)
		out[at] = s[at] + low
		n >>= 8
		if out[at] < low {
			n++ // the sum went round: one more for the byte ahead
		}
	}
	return string(out)
}

// Hex tells each byte by two signs.
func Hex(s string) string {
	out := make([]byte, 0, 2*len(s))
	for i := range len(s) {
		out = append(out, signs[s[i]>>4], signs[s[i]&15])
	}
	return string(out)
}

// Unhex is the way back; beside ErrForm stands the fault's place.
func Unhex(s string) (string, int, api.Errno) {
	out := make([]byte, len(s)/2)
	for i := range len(s) {
		half, ok := value(s[i])
		if !ok {
			return "", i, api.ErrForm
		}
		if i/2 < len(out) {
			out[i/2] = out[i/2]<<4 | half
		}
	}
	if len(s)%2 == 1 {
		return "", len(s), api.ErrForm
	}
	return string(out), 0, api.OK
}

// value is what a sign stands for.
func value(sign byte) (byte, bool) {
	switch {
	case sign >= '0' && sign <= '9':
		return sign - '0', true
	case sign >= 'a' && sign <= 'f':
		return sign - 'a' + 10, true
	}
	return 0, false
}
