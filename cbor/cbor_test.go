package cbor_test

import (
	"encoding/hex"
	"math/rand"
	"reflect"
	"strings"
	"testing"
	"unicode/utf8"

	"pyxis/api"
	"pyxis/cbor"
)

var most = api.Limits{Depth: 32, Items: 4096, Bytes: 262144, Rounds: 4096}

func bin(s string) string {
	b, err := hex.DecodeString(strings.ReplaceAll(s, " ", ""))
	if err != nil {
		panic(err)
	}
	return string(b)
}

func atoms(l ...api.Atom) []api.Atom   { return l }
func num(kind int, n uint64) api.Atom  { return api.Atom{Kind: kind, Num: n} }
func text(kind int, s string) api.Atom { return api.Atom{Kind: kind, Text: s} }
func same(a, b []api.Atom) bool        { return len(a) == 0 && len(b) == 0 || reflect.DeepEqual(a, b) }
func limits(depth, items, n int) api.Limits {
	return api.Limits{Depth: depth, Items: items, Bytes: n, Rounds: 1}
}

// P17.1, P17.2: what is read is told so.
func TestBoth(t *testing.T) {
	for _, c := range []struct {
		s    string
		want []api.Atom
	}{
		{"83 01 20 41 61", atoms(num(api.CArray, 3), num(api.CUint, 1), num(api.CNeg, 0), text(api.CBytes, "a"))},
		{"00", atoms(num(0, 0))}, {"17", atoms(num(0, 23))}, {"18 18", atoms(num(0, 24))}, {"18 ff", atoms(num(0, 255))}, {"19 01 00", atoms(num(0, 256))}, {"19 ff ff", atoms(num(0, 65535))}, {"1a 00 01 00 00", atoms(num(0, 65536))}, {"1a ff ff ff ff", atoms(num(0, 1<<32-1))}, {"1b 00 00 00 01 00 00 00 00", atoms(num(0, 1<<32))}, {"1b ff ff ff ff ff ff ff ff", atoms(num(0, 1<<64-1))},
		{"20", atoms(num(1, 0))}, {"38 63", atoms(num(1, 99))}, {"3b ff ff ff ff ff ff ff ff", atoms(num(1, 1<<64-1))}, {"40", atoms(text(2, ""))}, {"43 00 ff 80", atoms(text(2, "\x00\xff\x80"))}, {"60", atoms(text(3, ""))}, {"62 c3 a9", atoms(text(3, "é"))}, {"58 18 " + strings.Repeat("61", 24), atoms(text(2, strings.Repeat("a", 24)))}, {"79 01 00 " + strings.Repeat("61", 256), atoms(text(3, strings.Repeat("a", 256)))},
		{"80", atoms(num(4, 0))}, {"82 80 01", atoms(num(4, 2), num(4, 0), num(0, 1))}, {"a0", atoms(num(5, 0))}, {"a1 01 02", atoms(num(5, 1), num(0, 1), num(0, 2))}, {"a2 01 a0 02 a0", atoms(num(5, 2), num(0, 1), num(5, 0), num(0, 2), num(5, 0))}, {"a2 61 61 01 61 62 01", atoms(num(5, 2), text(3, "a"), num(0, 1), text(3, "b"), num(0, 1))}, {"a2 61 7a 01 62 61 61 01", atoms(num(5, 2), text(3, "z"), num(0, 1), text(3, "aa"), num(0, 1))}, {"a3 0a 00 18 64 00 20 00", atoms(num(5, 3), num(0, 10), num(0, 0), num(0, 100), num(0, 0), num(1, 0), num(0, 0))},
		{"a1 81 01 a1 80 80", atoms(num(5, 1), num(4, 1), num(0, 1), num(5, 1), num(4, 0), num(4, 0))}, {"a2 80 00 81 00 00", atoms(num(5, 2), num(4, 0), num(0, 0), num(4, 1), num(0, 0), num(0, 0))},
		{"c0 00", atoms(num(6, 0), num(0, 0))}, {"d8 18 40", atoms(num(6, 24), text(2, ""))}, {"db ff ff ff ff ff ff ff ff c1 80", atoms(num(6, 1<<64-1), num(6, 1), num(4, 0))}, {"f4", atoms(num(7, 20))}, {"f5", atoms(num(7, 21))}, {"f6", atoms(num(7, 22))}, {"f7", atoms(num(7, 23))},
	} {
		got, at, e := cbor.Decode(bin(c.s), most)
		if !same(got, c.want) || at != 0 || e != api.OK {
			t.Errorf("%.40s: %v, %d, %v", c.s, got, at, e)
		}
		if back, e := cbor.Encode(c.want); e != api.OK || back != bin(c.s) {
			t.Errorf("%.40s: %x, %v", c.s, back, e)
		}
	}
}

// P17.1: the faults and their places.
func TestFaults(t *testing.T) {
	for _, c := range []struct {
		s   string
		lim api.Limits
		e   api.Errno
		at  int
	}{
		{"18 17", most, api.ErrForm, 0}, {"A2 61 62 01 61 61 01", most, api.ErrForm, 4}, {"F9 00 00", most, api.ErrKind, 0}, {"5F", most, api.ErrForm, 0}, {"62 61", most, api.ErrForm, 2}, {"1C", most, api.ErrForm, 0},
		{"", most, api.ErrForm, 0}, {"00 00", most, api.ErrForm, 1}, {"18", most, api.ErrForm, 1}, {"19 01", most, api.ErrForm, 2}, {"19 00", most, api.ErrForm, 2}, {"19 00 ff", most, api.ErrForm, 0}, {"1a 00 00 ff ff", most, api.ErrForm, 0}, {"1b 00 00 00 00 ff ff ff ff", most, api.ErrForm, 0}, {"1b 00 00 00 00 ff ff ff", most, api.ErrForm, 8}, {"38 17", most, api.ErrForm, 0}, {"58 17", most, api.ErrForm, 0}, {"98 00", most, api.ErrForm, 0}, {"b9 00 01", most, api.ErrForm, 0}, {"d8 00 00", most, api.ErrForm, 0}, {"81 18 17", most, api.ErrForm, 1},
		{"1d", most, api.ErrForm, 0}, {"1e", most, api.ErrForm, 0}, {"1f", most, api.ErrForm, 0}, {"3c", most, api.ErrForm, 0}, {"7f", most, api.ErrForm, 0}, {"9f ff", most, api.ErrForm, 0}, {"bf ff", most, api.ErrForm, 0}, {"dc", most, api.ErrForm, 0}, {"fc", most, api.ErrForm, 0}, {"fd", most, api.ErrForm, 0}, {"ff", most, api.ErrForm, 0}, {"e0", most, api.ErrKind, 0}, {"f3", most, api.ErrKind, 0}, {"f8", most, api.ErrKind, 0}, {"f8 20", most, api.ErrKind, 0}, {"fa", most, api.ErrKind, 0}, {"fb", most, api.ErrKind, 0}, {"82 00 f0", most, api.ErrKind, 2},
		{"41", most, api.ErrForm, 1}, {"43 61", most, api.ErrForm, 2}, {"5b ff ff ff ff ff ff ff ff 00", most, api.ErrForm, 10}, {"7b 80 00 00 00 00 00 00 00", most, api.ErrForm, 9}, {"5a 00 04 00 00", most, api.ErrForm, 5}, {"61 80", most, api.ErrForm, 0}, {"62 c3", most, api.ErrForm, 2}, {"62 61 ff", most, api.ErrForm, 0}, {"63 ed a0 80", most, api.ErrForm, 0}, {"64 ff 61 61", most, api.ErrForm, 4}, {"82 61 61 61 ff", most, api.ErrForm, 3},
		{"81", most, api.ErrForm, 1}, {"82 01", most, api.ErrForm, 2}, {"a1", most, api.ErrForm, 1}, {"a1 01", most, api.ErrForm, 2}, {"c1", most, api.ErrForm, 1}, {"9b ff ff ff ff ff ff ff ff 00", most, api.ErrForm, 10}, {"bb 80 00 00 00 00 00 00 00 00", most, api.ErrForm, 10}, {"bb 80 00 00 00 00 00 00 00", most, api.ErrForm, 9}, {"80 80", most, api.ErrForm, 1},
		{"a2 01 00 01 00", most, api.ErrForm, 3}, {"a2 02 00 01 00", most, api.ErrForm, 3}, {"a2 02 00 01", most, api.ErrForm, 3}, {"a2 20 00 01 00", most, api.ErrForm, 3}, {"a2 62 61 61 00 61 7a 00", most, api.ErrForm, 5}, {"a2 81 01 00 80 00", most, api.ErrForm, 4}, {"a2 00 a2 05 00 04", most, api.ErrForm, 5}, {"a3 00 00 02 00 01 00", most, api.ErrForm, 5},
		// limits
		{"00", limits(1, 1, 1), api.OK, 0}, {"00 00", limits(1, 1, 1), api.ErrLimit, 1}, {"18 18", limits(1, 1, 1), api.ErrLimit, 1}, {"18 17", limits(1, 1, 1), api.ErrLimit, 1}, {"43 61 62 63", limits(1, 1, 3), api.ErrLimit, 3}, {"43 61 62", limits(1, 1, 3), api.ErrForm, 3}, {"5b ff ff ff ff ff ff ff ff 00", limits(1, 1, 9), api.ErrLimit, 9}, {"62 61 ff", limits(1, 1, 2), api.ErrLimit, 2}, {"81 00", limits(1, 2, 1), api.ErrLimit, 1}, {"81", limits(1, 1, 1), api.ErrForm, 1},
		{"81 00", limits(1, 1, 9), api.ErrLimit, 1}, {"81 1c", limits(1, 1, 9), api.ErrLimit, 1}, {"80", limits(1, 1, 9), api.OK, 0}, {"82 00 00", limits(1, 2, 9), api.ErrLimit, 2}, {"a1 00 00", limits(1, 2, 9), api.ErrLimit, 2}, {"81 80", limits(1, 1, 9), api.ErrLimit, 1},
		{"81 80", limits(1, 9, 9), api.ErrLimit, 1}, {"81 80", limits(2, 9, 9), api.OK, 0}, {"c1 c1 00", limits(1, 9, 9), api.ErrLimit, 1}, {"a1 00 a0", limits(1, 9, 9), api.ErrLimit, 2}, {"83 80 80 80", limits(2, 9, 9), api.OK, 0}, {"81 98", limits(1, 9, 9), api.ErrForm, 2}, {"81 98 17", limits(1, 9, 9), api.ErrForm, 1}, {"81 98 18", limits(1, 9, 9), api.ErrLimit, 1}, {"81 9c", limits(1, 9, 9), api.ErrForm, 1}, {"81 41 00", limits(1, 9, 9), api.OK, 0},
		{"00", api.Limits{}, api.ErrArg, 0}, {"00 00", limits(33, 1, 1), api.ErrArg, 0}, {"", limits(1, 0, 1), api.ErrArg, 0},
	} {
		l, at, e := cbor.Decode(bin(c.s), c.lim)
		if e != c.e || at != c.at || e != api.OK && l != nil {
			t.Errorf("%s within %v: %v, %d, %v", c.s, c.lim, l, at, e)
		}
	}
}

func deep(n int, a api.Atom) []api.Atom {
	var l []api.Atom
	for range n {
		l = append(l, a)
		if a.Kind == api.CMap {
			l = append(l, num(0, 0))
		}
	}
	return append(l, num(7, 20))
}

func wide(n int) []api.Atom {
	l := atoms(num(4, uint64(n)))
	for range n {
		l = append(l, num(0, 1))
	}
	return l
}

// P17.2
func TestEncodeFaults(t *testing.T) {
	long := func(n int) string { return strings.Repeat("a", n) }
	for i, c := range []struct {
		l []api.Atom
		e api.Errno
	}{
		{nil, api.ErrForm}, {atoms(num(0, 0), num(0, 0)), api.ErrForm}, {atoms(num(4, 1)), api.ErrForm}, {atoms(num(4, 0), num(0, 0)), api.ErrForm}, {atoms(num(4, 1<<64-1), num(0, 0)), api.ErrForm}, {atoms(num(5, 1), num(0, 0)), api.ErrForm}, {atoms(num(5, 1<<63)), api.ErrForm}, {atoms(num(5, 1<<63), num(0, 0), num(0, 0)), api.ErrForm}, {atoms(num(6, 5)), api.ErrForm}, {atoms(num(6, 0), num(0, 0), num(0, 0)), api.ErrForm}, {atoms(num(4, 1), num(4, 1), num(0, 0), num(0, 0)), api.ErrForm},
		{atoms(num(8, 0)), api.ErrForm}, {atoms(num(-1, 0)), api.ErrForm}, {atoms(num(7, 19)), api.ErrForm}, {atoms(num(7, 24)), api.ErrForm}, {atoms(num(7, 0)), api.ErrForm},
		{atoms(api.Atom{Kind: 0, Text: "x"}), api.ErrForm}, {atoms(api.Atom{Kind: 1, Text: "x"}), api.ErrForm}, {atoms(api.Atom{Kind: 2, Num: 1, Text: "x"}), api.ErrForm}, {atoms(api.Atom{Kind: 3, Num: 1, Text: "x"}), api.ErrForm}, {atoms(api.Atom{Kind: 4, Text: "x"}), api.ErrForm}, {atoms(api.Atom{Kind: 5, Text: "x"}), api.ErrForm}, {atoms(api.Atom{Kind: 6, Text: "x"}, num(0, 0)), api.ErrForm}, {atoms(api.Atom{Kind: 7, Num: 20, Text: "x"}), api.ErrForm}, {atoms(text(3, "\xff")), api.ErrForm}, {atoms(text(2, "\xff")), api.OK},
		{atoms(num(5, 2), num(0, 1), num(0, 0), num(0, 0), num(0, 0)), api.ErrForm}, {atoms(num(5, 2), num(0, 1), num(0, 0), num(0, 1), num(0, 0)), api.ErrForm}, {atoms(num(5, 2), text(2, "b"), num(0, 0), text(2, "a"), num(0, 0)), api.ErrForm}, {atoms(num(5, 2), text(2, "b"), num(0, 0), text(2, "aa"), num(0, 0)), api.OK}, {atoms(num(5, 2), num(0, 0), num(0, 5), num(0, 1), num(0, 0)), api.OK}, {atoms(num(4, 1), num(5, 2), num(4, 1), num(0, 0), num(0, 0), num(4, 0), num(0, 0)), api.ErrForm}, {atoms(num(5, 1), num(5, 2), num(0, 1), num(0, 0), num(0, 0), num(0, 0), num(0, 0)), api.ErrForm},
		{deep(32, num(4, 1)), api.OK}, {deep(33, num(4, 1)), api.ErrLimit}, {deep(32, num(6, 9)), api.OK}, {deep(33, num(6, 9)), api.ErrLimit}, {deep(32, num(5, 1)), api.OK}, {deep(33, num(5, 1)), api.ErrLimit}, {append(deep(33, num(4, 1)), num(0, 0)), api.ErrForm}, {deep(4095, num(6, 1)), api.ErrLimit}, {append(deep(31, num(4, 1))[:31], num(4, 0)), api.OK}, {append(deep(32, num(4, 1))[:32], num(4, 0)), api.ErrLimit},
		{append(deep(40, num(6, 1))[:40], num(5, 2), num(0, 1), num(0, 0), num(0, 0), num(0, 0)), api.ErrLimit},
		{wide(4095), api.OK}, {wide(4096), api.ErrLimit}, {append(wide(4096), num(9, 0)), api.ErrLimit}, {append(deep(4094, num(6, 1))[:4094], text(3, long(250000))), api.ErrLimit},
		{atoms(text(2, long(262139))), api.OK}, {atoms(text(2, long(262140))), api.ErrLimit}, {atoms(num(4, 2), text(2, long(262137)), num(0, 0)), api.OK}, {atoms(num(4, 2), text(2, long(262138)), num(0, 0)), api.ErrLimit}, {atoms(num(4, 2), text(2, long(262138)), text(2, "")), api.ErrLimit}, {atoms(text(3, long(1<<20))), api.ErrLimit}, {atoms(num(4, 2), text(2, long(300000)), num(9, 9)), api.ErrForm}, {atoms(num(5, 2), text(2, "b"), text(2, long(262200)), text(2, "a"), num(0, 0)), api.ErrLimit},
	} {
		s, e := cbor.Encode(c.l)
		if e != c.e || e != api.OK && s != "" {
			t.Errorf("%d: %d bytes, %v", i, len(s), e)
		}
		if e == api.OK {
			if l, at, e := cbor.Decode(s, most); !same(l, c.l) || at != 0 || e != api.OK {
				t.Errorf("%d: %d, %v", i, at, e)
			}
		}
	}
}

// told is what a reading by the chapter's words comes to.
type told struct {
	l  []api.Atom
	at int
	e  api.Errno
}

// byWords reads by the chapter's words; each item calls itself for what it holds.
func byWords(s string, lim api.Limits) (out told) {
	defer func() {
		if x := recover(); x != nil {
			out = x.(told)
		}
	}()
	fault := func(e api.Errno, at int) { panic(told{nil, at, e}) }
	want := func(at int) byte {
		if len(s) <= at {
			fault(api.ErrForm, len(s))
		}
		if at >= lim.Bytes {
			fault(api.ErrLimit, lim.Bytes)
		}
		return s[at]
	}
	var l []api.Atom
	var read func(p, depth int) int
	read = func(p, depth int) int {
		first := want(p)
		if len(l) >= lim.Items {
			fault(api.ErrLimit, p)
		}
		kind, a := int(first)/32, uint64(first)%32
		at := p + 1
		if a > 27 {
			fault(api.ErrForm, p)
		}
		if kind == 7 && (a < 20 || a > 23) {
			fault(api.ErrKind, p)
		}
		if a > 23 {
			n := []int{1, 2, 4, 8}[a-24]
			a = 0
			for range n {
				a = a<<8 + uint64(want(at))
				at++
			}
			if a < []uint64{0, 24, 1 << 8, 0, 1 << 16, 0, 0, 0, 1 << 32}[n] {
				fault(api.ErrForm, p)
			}
		}
		here := len(l)
		l = append(l, api.Atom{Kind: kind, Num: a})
		switch kind {
		case 2, 3:
			from := at
			for i := uint64(0); i < a; i++ {
				want(at)
				at++
			}
			l[here] = api.Atom{Kind: kind, Text: s[from:at]}
			if kind == 3 && !utf8.ValidString(s[from:at]) {
				fault(api.ErrForm, p)
			}
		case 4, 5, 6:
			if depth >= lim.Depth {
				fault(api.ErrLimit, p)
			}
			if kind == 6 {
				a = 1
			}
			last := ""
			for i := uint64(0); i < a; i++ {
				from := at
				at = read(at, depth+1)
				if kind == 5 {
					if i > 0 && s[from:at] <= last {
						fault(api.ErrForm, from)
					}
					last = s[from:at]
					at = read(at, depth+1)
				}
			}
		}
		return at
	}
	end := read(0, 0)
	if end < len(s) {
		want(end)
		fault(api.ErrForm, end)
	}
	return told{l, 0, api.OK}
}

// some tells an item of not too many.
func some(r *rand.Rand, depth int) []api.Atom {
	numbers := []uint64{0, 1, 2, 23, 24, 255, 256, 65535, 65536, 1 << 32, 1<<64 - 1}
	switch k := r.Intn(9); {
	case k < 2 && depth > 0:
		n := r.Intn(4)
		l := atoms(num(4, uint64(n)))
		for range n {
			l = append(l, some(r, depth-1)...)
		}
		return l
	case k < 4 && depth > 0:
		n := r.Intn(4)
		l := atoms(num(5, uint64(n)))
		for i := range n {
			switch r.Intn(5) {
			case 0:
				l = append(l, some(r, depth-1)...)
			default:
				l = append(l, num(0, uint64(i)))
			}
			l = append(l, some(r, depth-1)...)
		}
		return l
	case k < 5 && depth > 0:
		return append(atoms(num(6, numbers[r.Intn(11)])), some(r, depth-1)...)
	case k < 7:
		return atoms(num(r.Intn(2), numbers[r.Intn(11)]))
	case k < 8:
		return atoms(text(2+r.Intn(2), []string{"", "a", "bé", strings.Repeat("x", 23), strings.Repeat("x", 24), strings.Repeat("x", 300)}[r.Intn(6)]))
	}
	return atoms(num(7, uint64(20+r.Intn(4))))
}

func changed(r *rand.Rand, s string) string {
	b := []byte(s)
	for range r.Intn(3) {
		if len(b) == 0 {
			break
		}
		i := r.Intn(len(b))
		switch r.Intn(4) {
		case 0:
			b[i] = byte(r.Intn(256))
		case 1:
			b[i] += byte(r.Intn(3)) - 1
		case 2:
			b = append(b[:i], b[i+1:]...)
		case 3:
			b = append(b[:i], append([]byte{[]byte{0, 0x18, 0x61, 0x81, 0xa1, 0xc1, 0x41, 0xf6}[r.Intn(8)]}, b[i:]...)...)
		}
	}
	if len(b) > 0 && r.Intn(5) == 0 {
		b = b[:r.Intn(len(b)+1)]
	}
	return string(b)
}

// P17.1, P17.3: readings by the chapter's words of many texts, within many limits.
func TestReadings(t *testing.T) {
	r := rand.New(rand.NewSource(1))
	found := map[api.Errno]int{}
	for range 100000 {
		s := ""
		if r.Intn(4) > 0 {
			s, _ = cbor.Encode(some(r, 5))
			s = changed(r, s)
		} else {
			b := make([]byte, r.Intn(10))
			for i := range b {
				b[i] = []byte{0, 1, 0x17, 0x18, 0x19, 0x20, 0x41, 0x61, 0x62, 0x80, 0x81, 0x82, 0xa1, 0xa2, 0xc1, 0xf6, 0xff, 0x98}[r.Intn(18)]
			}
			s = string(b)
		}
		lim := most
		if r.Intn(2) == 0 {
			lim = limits(1+r.Intn(5), 1+r.Intn(10), 1+r.Intn(len(s)+3))
		}
		want := byWords(s, lim)
		l, at, e := cbor.Decode(s, lim)
		if !same(l, want.l) || at != want.at || e != want.e {
			t.Fatalf("%x within %v: %v, %d, %v, not %v", s, lim, l, at, e, want)
		}
		found[e]++
		if e != api.OK {
			continue
		}
		if back, e := cbor.Encode(l); e != api.OK || back != s {
			t.Fatalf("%x: %x, %v", s, back, e)
		}
		more := limits(lim.Depth+r.Intn(33-lim.Depth), lim.Items+r.Intn(4097-lim.Items), lim.Bytes+r.Intn(262145-lim.Bytes))
		if again, _, e := cbor.Decode(s, more); e != api.OK || !same(again, l) {
			t.Fatalf("%x within %v: %v", s, more, e)
		}
	}
	for _, e := range []api.Errno{api.OK, api.ErrForm, api.ErrLimit, api.ErrKind} {
		if found[e] < 500 {
			t.Error(e, "is seldom told:", found)
		}
	}
}

// P17.3
func TestEncoded(t *testing.T) {
	r := rand.New(rand.NewSource(2))
	n := 0
	for range 20000 {
		l := some(r, 6)
		s, e := cbor.Encode(l)
		if e != api.OK {
			continue
		}
		n++
		if back, at, e := cbor.Decode(s, most); !same(back, l) || at != 0 || e != api.OK {
			t.Fatalf("%v: %v, %d, %v", l, back, at, e)
		}
	}
	if n < 5000 {
		t.Error(n)
	}
}

// R4
func TestOwn(t *testing.T) {
	a, _, _ := cbor.Decode("\x82\x01\x02", most)
	b, _, _ := cbor.Decode("\x82\x01\x02", most)
	_ = append(a[:1], text(2, "x"))
	if b[1].Num != 1 {
		t.Error("shared")
	}
	l := make([]api.Atom, 2, 5)
	l[0], l[1] = num(4, 1), num(0, 1)
	before := append([]api.Atom{}, l[:5]...)
	cbor.Encode(l)
	if !reflect.DeepEqual(l[:5], before) {
		t.Error("changed")
	}
}
