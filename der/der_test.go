package der_test

import (
	"encoding/hex"
	"fmt"
	"math/rand"
	"reflect"
	"strings"
	"testing"

	"pyxis/api"
	"pyxis/der"
)

var most = api.Limits{Depth: 32, Items: 4096, Bytes: 262144, Rounds: 4096}

func bin(s string) string {
	b, err := hex.DecodeString(strings.ReplaceAll(s, " ", ""))
	if err != nil {
		panic(err)
	}
	return string(b)
}

func leaf(tag byte, body string) api.Node { return api.Node{Tag: tag, Kids: -1, Body: body} }
func within(tag byte, kids int) api.Node  { return api.Node{Tag: tag, Kids: kids} }
func nodes(l ...api.Node) []api.Node      { return l }
func same(a, b []api.Node) bool           { return len(a) == 0 && len(b) == 0 || reflect.DeepEqual(a, b) }
func limits(depth, items, n int) api.Limits {
	return api.Limits{Depth: depth, Items: items, Bytes: n, Rounds: 1}
}

// P15.1
func TestMay(t *testing.T) {
	for _, c := range []struct {
		lim  api.Limits
		want bool
	}{
		{most, true}, {api.Limits{Depth: 1, Items: 1, Bytes: 1, Rounds: 1}, true}, {api.Limits{}, false},
		{api.Limits{Depth: 0, Items: 1, Bytes: 1, Rounds: 1}, false}, {api.Limits{Depth: 1, Items: 0, Bytes: 1, Rounds: 1}, false}, {api.Limits{Depth: 1, Items: 1, Bytes: 0, Rounds: 1}, false}, {api.Limits{Depth: 1, Items: 1, Bytes: 1, Rounds: 0}, false},
		{api.Limits{Depth: 33, Items: 4096, Bytes: 262144, Rounds: 4096}, false}, {api.Limits{Depth: 32, Items: 4097, Bytes: 262144, Rounds: 4096}, false}, {api.Limits{Depth: 32, Items: 4096, Bytes: 262145, Rounds: 4096}, false}, {api.Limits{Depth: 32, Items: 4096, Bytes: 262144, Rounds: 4097}, false},
		{api.Limits{Depth: -1, Items: 1, Bytes: 1, Rounds: 1}, false}, {api.Limits{Depth: 1, Items: -1, Bytes: 1, Rounds: 1}, false}, {api.Limits{Depth: 1, Items: 1, Bytes: -5, Rounds: 1}, false}, {api.Limits{Depth: 1, Items: 1, Bytes: 1, Rounds: -9}, false},
	} {
		if got := der.May(c.lim); got != c.want {
			t.Error(c.lim, got)
		}
		if l, at, e := der.Decode("\x05\x00\x05", c.lim); !c.want && (l != nil || at != 0 || e != api.ErrArg) {
			t.Error(c.lim, l, at, e)
		}
	}
}

// P15.1: what is read.
func TestDecode(t *testing.T) {
	for _, c := range []struct {
		s    string
		want []api.Node
	}{
		{"05 00", nodes(leaf(5, ""))}, {"30 00", nodes(within(0x30, 0))}, {"31 00", nodes(within(0x31, 0))}, {"04 01 61", nodes(leaf(4, "a"))}, {"04 00", nodes(leaf(4, ""))},
		{"30 02 05 00", nodes(within(0x30, 1), leaf(5, ""))}, {"30 04 05 00 30 00", nodes(within(0x30, 2), leaf(5, ""), within(0x30, 0))},
		{"30 06 30 02 05 00 05 00", nodes(within(0x30, 2), within(0x30, 1), leaf(5, ""), leaf(5, ""))},
		{"01 01 00", nodes(leaf(1, "\x00"))}, {"01 01 ff", nodes(leaf(1, "\xff"))}, {"02 01 00", nodes(leaf(2, "\x00"))}, {"02 01 ff", nodes(leaf(2, "\xff"))}, {"02 02 00 80", nodes(leaf(2, "\x00\x80"))}, {"02 02 ff 7f", nodes(leaf(2, "\xff\x7f"))},
		{"03 01 00", nodes(leaf(3, "\x00"))}, {"03 02 07 80", nodes(leaf(3, "\x07\x80"))}, {"03 02 00 ff", nodes(leaf(3, "\x00\xff"))}, {"03 03 01 ff fe", nodes(leaf(3, "\x01\xff\xfe"))},
		{"06 01 2a", nodes(leaf(6, "*"))}, {"06 03 2a 81 00", nodes(leaf(6, "*\x81\x00"))}, {"06 05 2a 81 80 80 01", nodes(leaf(6, "*\x81\x80\x80\x01"))}, {"0c 00", nodes(leaf(12, ""))}, {"0c 02 c3 a9", nodes(leaf(12, "é"))},
		{"80 00", nodes(leaf(0x80, ""))}, {"9e 01 00", nodes(leaf(0x9e, "\x00"))}, {"a0 02 05 00", nodes(within(0xa0, 1), leaf(5, ""))}, {"be 00", nodes(within(0xbe, 0))}, {"81 02 00 01", nodes(leaf(0x81, "\x00\x01"))},
		{"31 04 05 00 05 00", nodes(within(0x31, 2), leaf(5, ""), leaf(5, ""))}, {"31 05 04 00 04 01 00", nodes(within(0x31, 2), leaf(4, ""), leaf(4, "\x00"))}, {"30 05 04 01 00 04 00", nodes(within(0x30, 2), leaf(4, "\x00"), leaf(4, ""))},
		{"04 81 80 " + strings.Repeat("61", 128), nodes(leaf(4, strings.Repeat("a", 128)))}, {"04 7f " + strings.Repeat("61", 127), nodes(leaf(4, strings.Repeat("a", 127)))}, {"04 82 01 00 " + strings.Repeat("61", 256), nodes(leaf(4, strings.Repeat("a", 256)))},
		{"30 81 83 04 81 80" + strings.Repeat("61", 128), nodes(within(0x30, 1), leaf(4, strings.Repeat("a", 128)))},
	} {
		got, at, e := der.Decode(bin(c.s), most)
		if !same(got, c.want) || at != 0 || e != api.OK {
			t.Errorf("%.40s: %v, %d, %v", c.s, got, at, e)
		}
		if back, e := der.Encode(c.want); e != api.OK || back != bin(c.s) {
			t.Errorf("%.40s: %x, %v", c.s, back, e)
		}
	}
}

// P15.1: the faults and their places.
func TestFaults(t *testing.T) {
	for _, c := range []struct {
		s   string
		lim api.Limits
		e   api.Errno
		at  int
	}{
		{"", most, api.ErrForm, 0}, {"02 02 00 01", most, api.ErrForm, 0}, {"04 81 05", most, api.ErrForm, 2}, {"30 02 04 01", most, api.ErrForm, 2}, {"04 02 61", most, api.ErrForm, 3}, {"1F", most, api.ErrKind, 0}, {"05 00 05", most, api.ErrForm, 2},
		// tags
		{"00 00", most, api.ErrKind, 0}, {"07 00", most, api.ErrKind, 0}, {"0a 01 00", most, api.ErrKind, 0}, {"13 00", most, api.ErrKind, 0}, {"1e 00", most, api.ErrKind, 0}, {"2a 00", most, api.ErrKind, 0}, {"40 00", most, api.ErrKind, 0}, {"7f 00", most, api.ErrKind, 0}, {"c0 00", most, api.ErrKind, 0}, {"e0 00", most, api.ErrKind, 0}, {"9f 00", most, api.ErrKind, 0}, {"bf 00", most, api.ErrKind, 0}, {"3f", most, api.ErrKind, 0},
		{"10 00", most, api.ErrForm, 0}, {"11 00", most, api.ErrForm, 0}, {"24 00", most, api.ErrForm, 0}, {"21", most, api.ErrForm, 0}, {"2c", most, api.ErrForm, 0}, {"30 04 05 00 10 00", most, api.ErrForm, 4},
		// lengths
		{"04", most, api.ErrForm, 1}, {"04 80", most, api.ErrForm, 1}, {"04 85", most, api.ErrForm, 1}, {"04 ff", most, api.ErrForm, 1}, {"04 84", most, api.ErrForm, 2}, {"04 81 7f", most, api.ErrForm, 2}, {"04 82 00", most, api.ErrForm, 2}, {"04 82 00 80", most, api.ErrForm, 2}, {"04 82 01", most, api.ErrForm, 3}, {"04 84 ff ff ff ff", most, api.ErrForm, 6}, {"04 84 00", most, api.ErrForm, 2}, {"04 81 80", most, api.ErrForm, 3},
		// an end behind an end
		{"30 01 05 00", most, api.ErrForm, 2}, {"30 03 30 05", most, api.ErrForm, 2}, {"30 02 04 84 ff ff ff ff", most, api.ErrForm, 2}, {"30 04 05 00 04 01 61", most, api.ErrForm, 4}, {"30 01 05", most, api.ErrForm, 3}, {"30 05 05 00", most, api.ErrForm, 4}, {"30 80 00 00", most, api.ErrForm, 1},
		// bodies
		{"01 00", most, api.ErrForm, 0}, {"01 01 01", most, api.ErrForm, 0}, {"01 02 00 00", most, api.ErrForm, 0}, {"02 00", most, api.ErrForm, 0}, {"02 02 00 7f", most, api.ErrForm, 0}, {"02 02 ff 80", most, api.ErrForm, 0}, {"02 03 00 00 80", most, api.ErrForm, 0},
		{"03 00", most, api.ErrForm, 0}, {"03 01 01", most, api.ErrForm, 0}, {"03 02 08 00", most, api.ErrForm, 0}, {"03 02 01 01", most, api.ErrForm, 0}, {"03 02 07 40", most, api.ErrForm, 0}, {"05 01 00", most, api.ErrForm, 0},
		{"06 00", most, api.ErrForm, 0}, {"06 01 80", most, api.ErrForm, 0}, {"06 02 80 01", most, api.ErrForm, 0}, {"06 02 2a 81", most, api.ErrForm, 0}, {"06 03 2a 80 01", most, api.ErrForm, 0}, {"06 03 2a 81 80", most, api.ErrForm, 0}, {"0c 01 80", most, api.ErrForm, 0}, {"0c 03 ed a0 80", most, api.ErrForm, 0}, {"0c 02 c0 80", most, api.ErrForm, 0}, {"0c 04 f4 90 80 80", most, api.ErrForm, 0},
		{"30 04 05 00 01 00", most, api.ErrForm, 4}, {"01 02 00", most, api.ErrForm, 3},
		// order
		{"31 05 04 01 00 04 00", most, api.ErrForm, 5}, {"31 05 04 00 02 01 00", most, api.ErrForm, 4}, {"31 06 30 02 05 00 05 00", most, api.ErrForm, 6}, {"31 06 05 00 30 00 30 02", most, api.ErrForm, 6}, {"31 08 30 02 05 00 30 02 04 00", most, api.ErrForm, 6},
		// limits
		{"05 00", limits(1, 1, 2), api.OK, 0}, {"05 00", limits(1, 1, 1), api.ErrLimit, 1}, {"05 00 05", limits(1, 1, 2), api.ErrLimit, 2}, {"05 00 05", limits(1, 1, 3), api.ErrForm, 2}, {"04 03 61 62 63", limits(1, 1, 4), api.ErrLimit, 4}, {"04 03 61 62", limits(1, 1, 4), api.ErrForm, 4}, {"04 03 61", limits(1, 1, 4), api.ErrForm, 3}, {"04 82 01", limits(1, 1, 2), api.ErrLimit, 2},
		{"04 05 61 62 63", limits(1, 1, 3), api.ErrLimit, 3}, {"05", limits(1, 1, 1), api.ErrForm, 1},
		{"30 02 05 00", limits(1, 1, 9), api.ErrLimit, 2}, {"30 02 05 00", limits(1, 2, 9), api.OK, 0}, {"30 02 1f 00", limits(1, 1, 9), api.ErrLimit, 2}, {"30 02 30 00", limits(1, 1, 9), api.ErrLimit, 2}, {"30 01", limits(1, 1, 9), api.ErrForm, 2}, {"30 02 05 00", limits(1, 1, 2), api.ErrLimit, 2},
		{"30 02 30 00", limits(1, 9, 9), api.ErrLimit, 2}, {"30 02 a0 00", limits(1, 9, 9), api.ErrLimit, 2}, {"30 02 30 00", limits(2, 9, 9), api.OK, 0}, {"30 04 30 00 30 00", limits(2, 9, 9), api.OK, 0}, {"30 04 30 02 30 00", limits(2, 9, 9), api.ErrLimit, 4}, {"30 02 10 00", limits(1, 9, 9), api.ErrForm, 2}, {"30 02 80 00", limits(1, 9, 9), api.OK, 0}, {"30 02 30", limits(1, 9, 9), api.ErrLimit, 2}, {"30 02 30 80", limits(1, 9, 9), api.ErrLimit, 2},
	} {
		l, at, e := der.Decode(bin(c.s), c.lim)
		if e != c.e || at != c.at || e != api.OK && l != nil {
			t.Errorf("%s within %v: %v, %d, %v", c.s, c.lim, l, at, e)
		}
	}
}

func deep(n int) []api.Node {
	var l []api.Node
	for range n {
		l = append(l, within(0x30, 1))
	}
	return append(l, leaf(5, ""))
}

func wide(n int) []api.Node {
	l := []api.Node{within(0x30, n)}
	for range n {
		l = append(l, leaf(5, ""))
	}
	return l
}

// P15.2
func TestEncodeFaults(t *testing.T) {
	long := func(n int) string { return strings.Repeat("a", n) }
	for i, c := range []struct {
		l []api.Node
		e api.Errno
	}{
		{nil, api.ErrForm}, {nodes(leaf(5, ""), leaf(5, "")), api.ErrForm}, {nodes(within(0x30, 1)), api.ErrForm}, {nodes(within(0x30, 0), leaf(5, "")), api.ErrForm}, {nodes(within(0x30, 2), leaf(5, "")), api.ErrForm}, {nodes(within(0x30, 1<<62), leaf(5, "")), api.ErrForm}, {nodes(within(0x30, 1), within(0x30, 1), leaf(5, ""), leaf(5, "")), api.ErrForm},
		{nodes(leaf(0x1f, "")), api.ErrForm}, {nodes(leaf(0x41, "")), api.ErrForm}, {nodes(leaf(0, "")), api.ErrForm}, {nodes(leaf(0x10, "")), api.ErrForm}, {nodes(within(0x24, 0)), api.ErrForm}, {nodes(leaf(0x9f, "")), api.ErrForm},
		{nodes(within(5, 0)), api.ErrForm}, {nodes(leaf(0x30, "")), api.ErrForm}, {nodes(api.Node{Tag: 0x30, Kids: 0, Body: "x"}), api.ErrForm}, {nodes(api.Node{Tag: 5, Kids: -2}), api.ErrForm}, {nodes(api.Node{Tag: 4, Kids: 0, Body: "x"}), api.ErrForm}, {nodes(api.Node{Tag: 0x30, Kids: -2}), api.ErrForm}, {nodes(leaf(0xa0, "")), api.ErrForm}, {nodes(within(0x80, 0)), api.ErrForm},
		{nodes(leaf(1, "")), api.ErrForm}, {nodes(leaf(2, "\x00\x01")), api.ErrForm}, {nodes(leaf(5, "x")), api.ErrForm}, {nodes(leaf(6, "")), api.ErrForm}, {nodes(leaf(12, "\xff")), api.ErrForm}, {nodes(leaf(3, "\x01")), api.ErrForm},
		{nodes(within(0x31, 2), leaf(4, "b"), leaf(4, "a")), api.ErrForm}, {nodes(within(0x31, 3), leaf(4, "a"), leaf(4, "b"), leaf(4, "a")), api.ErrForm}, {nodes(within(0x31, 2), leaf(4, "a"), leaf(4, "a")), api.OK}, {nodes(within(0x30, 1), within(0x31, 2), within(0x30, 1), leaf(5, ""), within(0x30, 0)), api.ErrForm}, {nodes(within(0xb1, 2), leaf(4, "b"), leaf(4, "a")), api.OK},
		{deep(32), api.OK}, {deep(33), api.ErrLimit}, {append(deep(31)[:31], within(0x30, 0)), api.OK}, {append(deep(32)[:32], within(0x30, 0)), api.ErrLimit}, {append(deep(4000), leaf(5, "")), api.ErrForm}, {deep(4095), api.ErrLimit}, {append(deep(4095), leaf(0, "")), api.ErrLimit},
		{wide(4095), api.OK}, {wide(4096), api.ErrLimit}, {append(wide(4096), leaf(0, "")), api.ErrLimit},
		{nodes(leaf(4, long(262144-5))), api.OK}, {nodes(leaf(4, long(262144-4))), api.ErrLimit}, {nodes(leaf(4, long(1<<20))), api.ErrLimit},
		{nodes(within(0x31, 2), leaf(4, long(150000)), leaf(4, long(150000))), api.ErrLimit}, {nodes(within(0x31, 2), leaf(4, "b"+long(150000)), leaf(4, "a"+long(150000))), api.ErrLimit}, {nodes(within(0x31, 2), leaf(4, "b"), leaf(4, long(1<<20)), leaf(5, "")), api.ErrForm},
		{append(nodes(within(0x31, 2), leaf(4, "b")), deep(32)...), api.ErrLimit},
	} {
		s, e := der.Encode(c.l)
		if e != c.e || e != api.OK && s != "" {
			t.Errorf("%d: %d bytes, %v", i, len(s), e)
		}
		if e == api.OK {
			if l, at, e := der.Decode(s, most); !same(l, c.l) || at != 0 || e != api.OK {
				t.Errorf("%d: %d, %v", i, at, e)
			}
		}
	}
}

// told is what a reading by the chapter's words comes to.
type told struct {
	l  []api.Node
	at int
	e  api.Errno
}

// byWords reads by the chapter's words, element by element, each calling itself.
func byWords(s string, lim api.Limits) (out told) {
	defer func() {
		if x := recover(); x != nil {
			out = x.(told)
		}
	}()
	fault := func(e api.Errno, at int) { panic(told{nil, at, e}) }
	want := func(at int) byte {
		if len(s) <= at {
			fault(api.ErrForm, len(s))
		}
		if at >= lim.Bytes {
			fault(api.ErrLimit, lim.Bytes)
		}
		return s[at]
	}
	var l []api.Node
	var read func(p, end, depth int) int
	read = func(p, outer, depth int) int {
		tag := want(p)
		if len(l) >= lim.Items {
			fault(api.ErrLimit, p)
		}
		names := map[byte]string{1: "1", 2: "2", 3: "3", 4: "4", 5: "5", 6: "6", 12: "12", 16: "within", 17: "within"}
		if tag&0x40 != 0 || tag&31 == 31 || tag < 0x40 && names[tag&31] == "" {
			fault(api.ErrKind, p)
		}
		if tag < 0x40 && (names[tag&31] == "within") != (tag&0x20 != 0) {
			fault(api.ErrForm, p)
		}
		if tag&0x20 != 0 && depth >= lim.Depth {
			fault(api.ErrLimit, p)
		}
		at := p + 1
		length := int(want(at))
		if length >= 128 {
			n := length - 128
			if n == 0 || n > 4 {
				fault(api.ErrForm, at)
			}
			length = 0
			for i := range n {
				at++
				length = 256*length + int(want(at))
				if i == 0 && length == 0 {
					fault(api.ErrForm, at)
				}
			}
			if length < 128 {
				fault(api.ErrForm, at)
			}
		}
		at++
		end := at + length
		if outer >= 0 && end > outer {
			fault(api.ErrForm, p)
		}
		here := len(l)
		l = append(l, api.Node{Tag: tag, Kids: -1})
		if tag&0x20 == 0 {
			for i := at; i < end; i++ {
				want(i)
			}
			l[here].Body = s[at:end]
			if _, e := der.Encode(l[here : here+1]); e == api.ErrForm {
				fault(api.ErrForm, p)
			}
			return end
		}
		l[here].Kids = 0
		last := ""
		for at < end {
			next := read(at, end, depth+1)
			if tag == 0x31 && l[here].Kids > 0 && last > s[at:next] {
				fault(api.ErrForm, at)
			}
			last = s[at:next]
			l[here].Kids++
			at = next
		}
		return end
	}
	end := read(0, -1, 0)
	if end < len(s) {
		want(end)
		fault(api.ErrForm, end)
	}
	return told{l, 0, api.OK}
}

// some tells a tree of not too many elements.
func some(r *rand.Rand, depth int) []api.Node {
	switch k := r.Intn(9); {
	case k < 4 && depth > 0:
		n := r.Intn(4)
		l := []api.Node{within([]byte{0x30, 0x31, 0xa0, 0xa3}[r.Intn(4)], n)}
		for range n {
			l = append(l, some(r, depth-1)...)
		}
		return l
	case k == 5:
		return nodes(leaf(2, []string{"\x00", "\x7f", "\x00\x80", "\xff", "\x80", "\x01\x00"}[r.Intn(6)]))
	case k == 6:
		return nodes(leaf(6, []string{"*", "*\x86\x48", "\x55\x04\x03"}[r.Intn(3)]))
	case k == 7:
		return nodes(leaf([]byte{4, 0x80, 0x81}[r.Intn(3)], strings.Repeat("x", []int{0, 1, 5, 127, 128, 300}[r.Intn(6)])))
	case k == 8:
		return nodes(leaf(12, "aé\u20ac"))
	}
	return nodes([]api.Node{leaf(5, ""), leaf(1, "\xff"), leaf(3, "\x04\xf0"), leaf(4, "abc")}[r.Intn(4)])
}

// changed is a text with some bytes other ones.
func changed(r *rand.Rand, s string) string {
	b := []byte(s)
	for range r.Intn(3) {
		if len(b) == 0 {
			break
		}
		i := r.Intn(len(b))
		switch r.Intn(4) {
		case 0:
			b[i] = byte(r.Intn(256))
		case 1:
			b[i] += byte(r.Intn(3)) - 1
		case 2:
			b = append(b[:i], b[i+1:]...)
		case 3:
			b = append(b[:i], append([]byte{[]byte{0, 5, 0x30, 0x31, 0x81, 0x80, 4, 1}[r.Intn(8)]}, b[i:]...)...)
		}
	}
	if len(b) > 0 && r.Intn(5) == 0 {
		b = b[:r.Intn(len(b)+1)]
	}
	return string(b)
}

// P15.1, P15.3: readings by the chapter's words of many texts, and within many limits.
func TestReadings(t *testing.T) {
	r := rand.New(rand.NewSource(1))
	found := map[string]int{}
	for range 60000 {
		s := ""
		if r.Intn(4) > 0 {
			s, _ = der.Encode(some(r, 5))
			s = changed(r, s)
		} else {
			b := make([]byte, r.Intn(12))
			for i := range b {
				b[i] = []byte{0, 1, 2, 3, 4, 5, 6, 0x30, 0x31, 0x80, 0xa0, 0x81, 0x1f, 0xff}[r.Intn(14)]
			}
			s = string(b)
		}
		lim := most
		if r.Intn(2) == 0 {
			lim = limits(1+r.Intn(5), 1+r.Intn(10), 1+r.Intn(len(s)+3))
		}
		want := byWords(s, lim)
		l, at, e := der.Decode(s, lim)
		if !same(l, want.l) || at != want.at || e != want.e {
			t.Fatalf("%x within %v: %v, %d, %v, not %v", s, lim, l, at, e, want)
		}
		found[fmt.Sprint(e)]++
		if e != api.OK {
			continue
		}
		if back, e := der.Encode(l); e != api.OK || back != s {
			t.Fatalf("%x: %x, %v", s, back, e)
		}
		more := limits(lim.Depth+r.Intn(33-lim.Depth), lim.Items+r.Intn(4097-lim.Items), lim.Bytes+r.Intn(262145-lim.Bytes))
		if again, _, e := der.Decode(s, more); e != api.OK || !same(again, l) {
			t.Fatalf("%x within %v: %v", s, more, e)
		}
		if again, _, e := der.Decode(s, limits(lim.Depth, lim.Items, max(len(s), 1))); e != api.OK || !same(again, l) {
			t.Fatalf("%x within its bytes: %v", s, e)
		}
	}
	for _, e := range []api.Errno{api.OK, api.ErrForm, api.ErrLimit, api.ErrKind} {
		if found[fmt.Sprint(e)] < 500 {
			t.Error(e, "is seldom told:", found)
		}
	}
}

// P15.3
func TestEncoded(t *testing.T) {
	r := rand.New(rand.NewSource(2))
	n := 0
	for range 20000 {
		l := some(r, 6)
		s, e := der.Encode(l)
		if e != api.OK {
			continue
		}
		n++
		if back, at, e := der.Decode(s, most); !same(back, l) || at != 0 || e != api.OK {
			t.Fatalf("%v: %v, %d, %v", l, back, at, e)
		}
	}
	if n < 5000 {
		t.Error(n)
	}
}

// R4
func TestOwn(t *testing.T) {
	a, _, _ := der.Decode(bin("30 04 05 00 05 00"), most)
	b, _, _ := der.Decode(bin("30 04 05 00 05 00"), most)
	_ = append(a[:1], leaf(4, "x"))
	if b[1].Tag != 5 {
		t.Error("shared")
	}
	l := make([]api.Node, 2, 5)
	l[0], l[1] = within(0x30, 1), leaf(5, "")
	before := append([]api.Node{}, l[:5]...)
	der.Encode(l)
	if !reflect.DeepEqual(l[:5], before) {
		t.Error("changed")
	}
}
