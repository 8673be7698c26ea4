package jwe

import (
	"pyxis/api"
)

// member is a name of an object, and what it names: a value, with all that it holds.
type member struct {
	name  string
	value []api.Value
}

// kind is that of the value.
func (m member) kind() int {
	return m.value[0].Kind
}

// first is the value that a list begins with, with all that it holds.
func first(l []api.Value) []api.Value {
	end := 0
	for wanted := 1; wanted > 0; end++ {
		wanted += l[end].Kids - 1
	}
	return l[:end]
}

// members are those of an object, in order; of nothing, none.
func members(object []api.Value) []member {
	var out []member
	for at := 1; at < len(object); {
		value := first(object[at+1:])
		out = append(out, member{object[at].Text, value})
		at += 1 + len(value)
	}
	return out
}

// elements are those of an array, in order.
func elements(array []api.Value) [][]api.Value {
	var out [][]api.Value
	for at := 1; at < len(array); {
		value := first(array[at:])
		out = append(out, value)
		at += len(value)
	}
	return out
}

// object puts members together.
func object(l []member) []api.Value {
	out := []api.Value{{Kind: api.JObject, Kids: 2 * len(l)}}
	for _, m := range l {
		out = append(out, api.Value{Kind: api.JString, Text: m.name})
		out = append(out, m.value...)
	}
	return out
}

// str is a member that is a string.
func str(name, text string) member {
	return member{name, []api.Value{{Kind: api.JString, Text: text}}}
}
