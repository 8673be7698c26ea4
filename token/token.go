// Package token takes what JSON's texts are made of, byte by byte: words, numbers and strings, as chapter 16 has them. Layers 16 and 19 read by it.
package token

// Step is what taking a byte came to.
type Step int

const (
	More Step = iota // it belongs there, and more must or may follow
	Done             // it belongs there, and ends what is read
	Over             // it doesn't belong there: what is read ended ahead of it
	Bad              // it may not stand there
)

// Word is what is still to come of true, false or null.
type Word struct {
	rest string
}

// NewWord begins behind the first letter of a word.
func NewWord(word string) *Word {
	return &Word{word[1:]}
}

// Take takes the next byte.
func (w *Word) Take(b byte) Step {
	if b != w.rest[0] {
		return Bad
	}
	w.rest = w.rest[1:]
	if w.rest == "" {
		return Done
	}
	return More
}

// Where a number is: behind what.
const (
	nothing = iota
	minus
	nought
	digits
	point
	fraction
	letter
	sign
	exponent
)

// Number is one whose end is told only by what stands behind it.
type Number struct {
	where int
	text  []byte
}

// Take takes the next byte.
func (n *Number) Take(b byte) Step {
	next, ok := n.next(b)
	if ok {
		n.where = next
		n.text = append(n.text, b)
		return More
	}
	if n.Whole() {
		return Over
	}
	return Bad
}

// next tells where a number is behind one more byte, if it goes on with it.
func (n *Number) next(b byte) (int, bool) {
	digit := b >= '0' && b <= '9'
	switch n.where {
	case nothing:
		return first(b)
	case minus:
		next, ok := first(b)
		return next, ok && next != minus
	case nought, digits:
		switch {
		case digit && n.where == digits:
			return digits, true
		case b == '.':
			return point, true
		case b == 'e' || b == 'E':
			return letter, true
		}
	case point:
		return fraction, digit
	case fraction:
		if b == 'e' || b == 'E' {
			return letter, true
		}
		return fraction, digit
	case letter:
		if b == '+' || b == '-' {
			return sign, true
		}
		return exponent, digit
	case sign, exponent:
		return exponent, digit
	}
	return nothing, false
}

// first tells where a number is behind its first byte.
func first(b byte) (int, bool) {
	switch {
	case b == '-':
		return minus, true
	case b == '0':
		return nought, true
	}
	return digits, b >= '1' && b <= '9'
}

// Whole says whether the number may end.
func (n *Number) Whole() bool {
	switch n.where {
	case nought, digits, fraction, exponent:
		return true
	}
	return false
}

// Text is what was taken.
func (n *Number) Text() string {
	return string(n.text)
}
