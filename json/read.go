package json

import (
	"pyxis/api"
	"pyxis/der"
	"pyxis/reading"
	"pyxis/token"
)

// What may come next, where blanks were passed over.
const (
	aValue = iota
	valueOrEnd
	aName
	nameOrEnd
	aColon
	commaOrEnd
	onlyBlanks
)

// begun is an array or an object that has not ended yet.
type begun struct {
	value int            // its number in the list
	names map[string]int // of an object: its names so far, with their numbers
}

// reader is one reading.
type reader struct {
	reading.Text
	lim    api.Limits
	next   int
	values []api.Value
	stack  []begun
}

// Decode reads one value; beside an error stands the fault's place.
func Decode(s string, lim api.Limits) (l []api.Value, at int, e api.Errno) {
	if !der.May(lim) {
		return nil, 0, api.ErrArg
	}
	defer func() {
		if x := recover(); x != nil {
			f := x.(reading.Fault) // another panic than a fault goes on
			l, at, e = nil, f.At, f.E
		}
	}()
	r := reader{Text: reading.New(s, lim.Bytes), lim: lim}
	for r.next != onlyBlanks {
		r.step()
	}
	for !r.Ended() {
		if !blank(r.Next()) {
			reading.Fail(api.ErrForm, r.Place()-1)
		}
	}
	return r.values, 0, api.OK
}

func blank(b byte) bool {
	return b == ' ' || b == '\t' || b == '\n' || b == '\r'
}

// step passes over blanks, and reads what comes next.
func (r *reader) step() {
	for blank(r.Peek()) {
		r.Next()
	}
	b := r.Peek()
	switch r.next {
	case aColon:
		r.pass(b == ':', aValue)
	case commaOrEnd:
		r.goOn(b)
	case nameOrEnd, aName:
		if r.next == nameOrEnd && b == '}' {
			r.end()
			return
		}
		r.name(b)
	case valueOrEnd, aValue:
		if r.next == valueOrEnd && b == ']' {
			r.end()
			return
		}
		r.value(b)
	}
}

// pass passes a byte, if it is right.
func (r *reader) pass(right bool, next int) {
	if !right {
		reading.Fail(api.ErrForm, r.Place())
	}
	r.Next()
	r.next = next
}

// goOn reads what stands behind a value of an array or an object.
func (r *reader) goOn(b byte) {
	object := r.stack[len(r.stack)-1].names != nil
	switch {
	case object && b == '}' || !object && b == ']':
		r.end()
	case object:
		r.pass(b == ',', aName)
	default:
		r.pass(b == ',', aValue)
	}
}

// end ends an array or an object.
func (r *reader) end() {
	r.Next()
	r.stack = r.stack[:len(r.stack)-1]
	r.ended()
}

// ended knows what comes behind a value.
func (r *reader) ended() {
	r.next = commaOrEnd
	if len(r.stack) == 0 {
		r.next = onlyBlanks
	}
}

// add begins one more value.
func (r *reader) add(v api.Value) {
	if len(r.values) >= r.lim.Items {
		reading.Fail(api.ErrLimit, r.Place())
	}
	if len(r.stack) > 0 {
		r.values[r.stack[len(r.stack)-1].value].Kids++
	}
	r.values = append(r.values, v)
}

func (r *reader) name(b byte) {
	at := r.Place()
	if b != '"' {
		reading.Fail(api.ErrForm, at)
	}
	names := r.stack[len(r.stack)-1].names
	r.add(api.Value{Kind: api.JString})
	name := r.text()
	if _, twice := names[name]; twice {
		reading.Fail(api.ErrForm, at)
	}
	names[name] = len(r.values) - 1
	r.next = aColon
}

func (r *reader) value(b byte) {
	switch {
	case b == '"':
		r.add(api.Value{Kind: api.JString})
		r.text()
		r.ended()
	case b == '{':
		r.begin(api.JObject, begun{names: map[string]int{}}, nameOrEnd)
	case b == '[':
		r.begin(api.JArray, begun{}, valueOrEnd)
	case b == 't':
		r.word(api.JTrue, "true")
	case b == 'f':
		r.word(api.JFalse, "false")
	case b == 'n':
		r.word(api.JNull, "null")
	case b == '-' || b >= '0' && b <= '9':
		r.number()
	default:
		reading.Fail(api.ErrForm, r.Place())
	}
}

// begin begins an array or an object.
func (r *reader) begin(kind int, holder begun, next int) {
	at := r.Place()
	r.add(api.Value{Kind: kind})
	if len(r.stack) >= r.lim.Depth {
		reading.Fail(api.ErrLimit, at)
	}
	holder.value = len(r.values) - 1
	r.stack = append(r.stack, holder)
	r.Next()
	r.next = next
}

func (r *reader) word(kind int, word string) {
	r.add(api.Value{Kind: kind})
	r.Next()
	w := token.NewWord(word)
	for r.taken(w.Take(r.Next())) {
	}
	r.ended()
}

// text reads a string: its bytes are the last value's.
func (r *reader) text() string {
	r.Next()
	s := token.String{}
	for r.taken(s.Take(r.Next())) {
	}
	text := s.Text()
	r.values[len(r.values)-1].Text = text
	return text
}

// taken says whether more must follow.
func (r *reader) taken(step token.Step) bool {
	if step == token.Bad {
		reading.Fail(api.ErrForm, r.Place()-1)
	}
	return step == token.More
}

// number takes as many bytes as go on with it, below the limit; if they don't make a whole one, one more is wanted.
func (r *reader) number() {
	r.add(api.Value{Kind: api.JNumber})
	n := token.Number{}
	for r.Open() && n.Take(r.Peek()) == token.More {
		r.Next()
	}
	if !n.Whole() {
		r.Next()
		reading.Fail(api.ErrForm, r.Place()-1)
	}
	r.values[len(r.values)-1].Text = n.Text()
	r.ended()
}
