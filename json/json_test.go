package json_test

import (
	stdjson "encoding/json"
	"math/rand"
	"reflect"
	"regexp"
	"strings"
	"testing"
	"unicode/utf8"

	"pyxis/api"
	"pyxis/json"
)

var most = api.Limits{Depth: 32, Items: 4096, Bytes: 262144, Rounds: 4096}

func values(l ...api.Value) []api.Value { return l }
func str(s string) api.Value            { return api.Value{Kind: api.JString, Text: s} }
func num(s string) api.Value            { return api.Value{Kind: api.JNumber, Text: s} }
func array(kids int) api.Value          { return api.Value{Kind: api.JArray, Kids: kids} }
func object(kids int) api.Value         { return api.Value{Kind: api.JObject, Kids: kids} }
func word(kind int) api.Value           { return api.Value{Kind: kind} }
func same(a, b []api.Value) bool        { return len(a) == 0 && len(b) == 0 || reflect.DeepEqual(a, b) }
func limits(depth, items, n int) api.Limits {
	return api.Limits{Depth: depth, Items: items, Bytes: n, Rounds: 1}
}

// P16.1: what is read, and how it is told.
func TestDecode(t *testing.T) {
	for _, c := range []struct {
		s, told string
		want    []api.Value
	}{
		{`[1, "\u00e9"]`, `[1,"é"]`, values(array(2), num("1"), str("é"))}, {" \t\n\rnull \t\n\r", "null", values(word(api.JNull))}, {"true", "true", values(word(api.JTrue))}, {"false", "false", values(word(api.JFalse))},
		{"[]", "[]", values(array(0))}, {"[ ]", "[]", values(array(0))}, {"{}", "{}", values(object(0))}, {"{ }", "{}", values(object(0))}, {`""`, `""`, values(str(""))},
		{`{"a":1,"b":[{}]}`, `{"a":1,"b":[{}]}`, values(object(4), str("a"), num("1"), str("b"), array(1), object(0))}, {` { "a" : 1 , "" : [ 1 , 2 ] } `, `{"a":1,"":[1,2]}`, values(object(4), str("a"), num("1"), str(""), array(2), num("1"), num("2"))},
		{"0", "0", values(num("0"))}, {"-0", "-0", values(num("-0"))}, {"-0.0e-0", "-0.0e-0", values(num("-0.0e-0"))}, {"1E+05", "1E+05", values(num("1E+05"))}, {"12.50", "12.50", values(num("12.50"))}, {"1e5", "1e5", values(num("1e5"))}, {"10", "10", values(num("10"))}, {"1234567890123456789012345678901234567890", "1234567890123456789012345678901234567890", values(num("1234567890123456789012345678901234567890"))},
		{`"\"\\\/\b\f\n\r\t"`, `"\"\\/\u0008\u000c\u000a\u000d\u0009"`, values(str("\"\\/\b\f\n\r\t"))}, {`"\u0000\u001f\u007f"`, "\"\\u0000\\u001f\x7f\"", values(str("\x00\x1f\x7f"))}, {`"\uD834\uDD1E\ud800\udc00\udbff\udfff"`, "\"\U0001d11e\U00010000\U0010ffff\"", values(str("\U0001d11e\U00010000\U0010ffff"))}, {`"\uABCD\uabcd\ud7ff\ue000\uffff"`, "\"\uabcd\uabcd\ud7ff\ue000\uffff\"", values(str("\uabcd\uabcd\ud7ff\ue000\uffff"))},
		{"\"é\u20ac\U0010ffff\ud7ff\"", "\"é\u20ac\U0010ffff\ud7ff\"", values(str("é\u20ac\U0010ffff\ud7ff"))}, {`{"a":{"a":1},"A":2}`, `{"a":{"a":1},"A":2}`, values(object(4), str("a"), object(2), str("a"), num("1"), str("A"), num("2"))},
		{`[{"a":1},{"a":1}]`, `[{"a":1},{"a":1}]`, values(array(2), object(2), str("a"), num("1"), object(2), str("a"), num("1"))}, {`{"a":"a"}`, `{"a":"a"}`, values(object(2), str("a"), str("a"))},
	} {
		got, at, e := json.Decode(c.s, most)
		if !same(got, c.want) || at != 0 || e != api.OK {
			t.Errorf("%s: %v, %d, %v", c.s, got, at, e)
		}
		if back, e := json.Encode(c.want); e != api.OK || back != c.told {
			t.Errorf("%s: %s, %v", c.s, back, e)
		}
	}
}

// P16.1: the faults and their places.
func TestFaults(t *testing.T) {
	for _, c := range []struct {
		s   string
		lim api.Limits
		e   api.Errno
		at  int
	}{
		{`{"a":1,"a":2}`, most, api.ErrForm, 7}, {`[1,]`, most, api.ErrForm, 3}, {`01`, most, api.ErrForm, 1}, {`"\ud800"`, most, api.ErrForm, 7}, {`nul`, most, api.ErrForm, 3},
		{"", most, api.ErrForm, 0}, {" ", most, api.ErrForm, 1}, {"x", most, api.ErrForm, 0}, {"+1", most, api.ErrForm, 0}, {".5", most, api.ErrForm, 0}, {"]", most, api.ErrForm, 0}, {"\xef\xbb\xbf1", most, api.ErrForm, 0}, {"\v1", most, api.ErrForm, 0}, {"True", most, api.ErrForm, 0},
		{"truE", most, api.ErrForm, 3}, {"nall", most, api.ErrForm, 1}, {"truex", most, api.ErrForm, 4}, {"f", most, api.ErrForm, 1}, {"falze", most, api.ErrForm, 3}, {"t rue", most, api.ErrForm, 1},
		{"-", most, api.ErrForm, 1}, {"-x", most, api.ErrForm, 1}, {"--1", most, api.ErrForm, 1}, {"-01", most, api.ErrForm, 2}, {"1.", most, api.ErrForm, 2}, {"1.x", most, api.ErrForm, 2}, {"1.e5", most, api.ErrForm, 2}, {"1e", most, api.ErrForm, 2}, {"1e+", most, api.ErrForm, 3}, {"1e+ ", most, api.ErrForm, 3}, {"1ee", most, api.ErrForm, 2}, {"1.5.", most, api.ErrForm, 3}, {"0x1", most, api.ErrForm, 1}, {"1 2", most, api.ErrForm, 2}, {"[01]", most, api.ErrForm, 2}, {"1e5.", most, api.ErrForm, 3}, {"00", most, api.ErrForm, 1}, {"[-]", most, api.ErrForm, 2},
		{`"`, most, api.ErrForm, 1}, {"\"\x1f\"", most, api.ErrForm, 1}, {"\"a\n\"", most, api.ErrForm, 2}, {`"\x"`, most, api.ErrForm, 2}, {`"\`, most, api.ErrForm, 2}, {`"\u`, most, api.ErrForm, 3}, {`"\u12`, most, api.ErrForm, 5}, {`"\u12g4"`, most, api.ErrForm, 5}, {`"\u 123"`, most, api.ErrForm, 3}, {`"\U0041"`, most, api.ErrForm, 2}, {`"\'"`, most, api.ErrForm, 2},
		{`"\udc00"`, most, api.ErrForm, 6}, {`"\uDFFF"`, most, api.ErrForm, 6}, {`"\udc00`, most, api.ErrForm, 6}, {`"\ud800x"`, most, api.ErrForm, 7}, {`"\ud800\n"`, most, api.ErrForm, 8}, {`"\ud800\u0041"`, most, api.ErrForm, 12}, {`"\ud800\ud800"`, most, api.ErrForm, 12}, {`"\ud800\ue000"`, most, api.ErrForm, 12}, {`"\ud800\ug"`, most, api.ErrForm, 9}, {`"\ud800`, most, api.ErrForm, 7}, {`"\ud800\u`, most, api.ErrForm, 9}, {`"\udbff\udc00\udc00"`, most, api.ErrForm, 18},
		{"\"\x80\"", most, api.ErrForm, 1}, {"\"\xc0\x80\"", most, api.ErrForm, 1}, {"\"\xc1\xbf\"", most, api.ErrForm, 1}, {"\"\xc3\"", most, api.ErrForm, 2}, {"\"\xc3\xc0\"", most, api.ErrForm, 2}, {"\"\xe1\xc0\x80\"", most, api.ErrForm, 2}, {"\"\xf1\xc0\x80\x80\"", most, api.ErrForm, 2}, {"\"\xe1\x80\xc0\"", most, api.ErrForm, 3}, {"\"\xc3\x7f\"", most, api.ErrForm, 2}, {"\"\xf1\x80\x80\x7f\"", most, api.ErrForm, 4}, {"\"\xc3", most, api.ErrForm, 2}, {"\"\xe0\x9f\x80\"", most, api.ErrForm, 2}, {"\"\xe0\xa0\"", most, api.ErrForm, 3}, {"\"\xed\xa0\x80\"", most, api.ErrForm, 2}, {"\"\xf0\x8f\xbf\xbf\"", most, api.ErrForm, 2}, {"\"\xf4\x90\x80\x80\"", most, api.ErrForm, 2}, {"\"\xf5\x80\x80\x80\"", most, api.ErrForm, 1}, {"\"\xf0\x90\x80x\"", most, api.ErrForm, 4}, {"\"\xff\"", most, api.ErrForm, 1}, {"\"\xe2\x82\xc3\"", most, api.ErrForm, 3},
		{"[", most, api.ErrForm, 1}, {"[1", most, api.ErrForm, 2}, {"[1 2]", most, api.ErrForm, 3}, {"[1}", most, api.ErrForm, 2}, {"[,1]", most, api.ErrForm, 1}, {"[1,,2]", most, api.ErrForm, 3}, {"[1]]", most, api.ErrForm, 3}, {"[1] x", most, api.ErrForm, 4}, {"[1, ", most, api.ErrForm, 4}, {"[}", most, api.ErrForm, 1}, {"[1:2]", most, api.ErrForm, 2},
		{"{", most, api.ErrForm, 1}, {"{1:2}", most, api.ErrForm, 1}, {`{"a"}`, most, api.ErrForm, 4}, {`{"a":}`, most, api.ErrForm, 5}, {`{"a":1,}`, most, api.ErrForm, 7}, {`{"a":1]`, most, api.ErrForm, 6}, {`{"a":1 "b":2}`, most, api.ErrForm, 7}, {`{"a",1}`, most, api.ErrForm, 4}, {`{,}`, most, api.ErrForm, 1}, {`{]`, most, api.ErrForm, 1}, {`{"a":1,"b":2, "\u0061" x`, most, api.ErrForm, 14}, {`{"a":1,"a"`, most, api.ErrForm, 7}, {`{"a":1,"a`, most, api.ErrForm, 9}, {`{"":1,"":2}`, most, api.ErrForm, 6}, {`{"a":`, most, api.ErrForm, 5}, {`{null:1}`, most, api.ErrForm, 1},
		// limits
		{"1", limits(1, 1, 1), api.OK, 0}, {"12", limits(1, 1, 1), api.ErrLimit, 1}, {"1 ", limits(1, 1, 1), api.ErrLimit, 1}, {"1x", limits(1, 1, 1), api.ErrLimit, 1}, {"  1", limits(1, 1, 1), api.ErrLimit, 1}, {"-1", limits(1, 1, 1), api.ErrLimit, 1}, {"-", limits(1, 1, 1), api.ErrForm, 1}, {"1.5", limits(1, 1, 2), api.ErrLimit, 2}, {"true", limits(1, 1, 3), api.ErrLimit, 3}, {"trux", limits(1, 1, 3), api.ErrLimit, 3}, {`"ab"`, limits(1, 1, 3), api.ErrLimit, 3}, {`"ab"`, limits(1, 1, 4), api.OK, 0}, {`"\u0041"`, limits(1, 1, 5), api.ErrLimit, 5}, {"\"\xc3\xa9\"", limits(1, 1, 2), api.ErrLimit, 2}, {`"`, limits(1, 1, 1), api.ErrForm, 1}, {"[12]", limits(1, 2, 2), api.ErrLimit, 2}, {"[12]", limits(1, 2, 3), api.ErrLimit, 3},
		{"[1]", limits(1, 1, 9), api.ErrLimit, 1}, {"[x]", limits(1, 1, 9), api.ErrForm, 1}, {"[]", limits(1, 1, 9), api.OK, 0}, {"[1,2]", limits(1, 2, 9), api.ErrLimit, 3}, {`{"a":1}`, limits(1, 1, 9), api.ErrLimit, 1}, {`{"a":1}`, limits(1, 2, 9), api.ErrLimit, 5}, {`{"a":1}`, limits(1, 3, 9), api.OK, 0}, {`{1:1}`, limits(1, 1, 9), api.ErrForm, 1}, {`{"a":x}`, limits(1, 2, 9), api.ErrForm, 5},
		{"[[]]", limits(1, 9, 9), api.ErrLimit, 1}, {"[[]]", limits(2, 9, 9), api.OK, 0}, {"[{}]", limits(1, 9, 9), api.ErrLimit, 1}, {`{"a":[]}`, limits(1, 9, 9), api.ErrLimit, 5}, {"[[],[],[]]", limits(2, 9, 99), api.OK, 0}, {"[[", limits(1, 9, 9), api.ErrLimit, 1},
		{"1", api.Limits{}, api.ErrArg, 0}, {"x", limits(0, 1, 1), api.ErrArg, 0}, {"", limits(33, 1, 1), api.ErrArg, 0},
	} {
		l, at, e := json.Decode(c.s, c.lim)
		if e != c.e || at != c.at || e != api.OK && l != nil {
			t.Errorf("%q within %v: %v, %d, %v", c.s, c.lim, l, at, e)
		}
	}
}

func deep(n int, kind int) []api.Value {
	var l []api.Value
	for range n {
		if kind == api.JArray {
			l = append(l, array(1))
		} else {
			l = append(l, object(2), str("a"))
		}
	}
	return append(l, word(api.JNull))
}

func wide(n int) []api.Value {
	l := values(array(n))
	for range n {
		l = append(l, num("1"))
	}
	return l
}

// P16.2
func TestEncodeFaults(t *testing.T) {
	long := func(n int) string { return strings.Repeat("a", n) }
	for i, c := range []struct {
		l []api.Value
		e api.Errno
	}{
		{nil, api.ErrForm}, {values(num("1"), num("2")), api.ErrForm}, {values(array(1)), api.ErrForm}, {values(array(0), num("1")), api.ErrForm}, {values(array(1<<62), num("1")), api.ErrForm}, {values(array(-1), num("1")), api.ErrForm}, {values(array(1), num("1"), num("2")), api.ErrForm},
		{values(word(7)), api.ErrForm}, {values(word(-1)), api.ErrForm}, {values(api.Value{Kind: api.JNull, Text: "x"}), api.ErrForm}, {values(api.Value{Kind: api.JTrue, Kids: 1}, num("1")), api.ErrForm}, {values(api.Value{Kind: api.JFalse, Kids: -1}), api.ErrForm}, {values(api.Value{Kind: api.JArray, Text: "x"}), api.ErrForm}, {values(api.Value{Kind: api.JObject, Text: "x"}), api.ErrForm}, {values(api.Value{Kind: api.JString, Text: "x", Kids: 1}, num("1")), api.ErrForm}, {values(api.Value{Kind: api.JNumber, Text: "1", Kids: 1}, num("1")), api.ErrForm},
		{values(num("")), api.ErrForm}, {values(num("01")), api.ErrForm}, {values(num("-")), api.ErrForm}, {values(num("1.")), api.ErrForm}, {values(num("1 ")), api.ErrForm}, {values(num("+1")), api.ErrForm}, {values(num("1e")), api.ErrForm}, {values(num(".5")), api.ErrForm}, {values(num("1e+5")), api.OK}, {values(num("-0.10E-07")), api.OK},
		{values(str("\xff")), api.ErrForm}, {values(str("\xed\xa0\x80")), api.ErrForm}, {values(str("")), api.OK},
		{values(object(1), str("a")), api.ErrForm}, {values(object(3), str("a"), num("1"), str("b")), api.ErrForm}, {values(object(-2)), api.ErrForm}, {values(object(2), num("1"), num("1")), api.ErrForm}, {values(object(2), array(0), num("1")), api.ErrForm}, {values(object(4), str("a"), num("1"), str("a"), num("2")), api.ErrForm}, {values(object(4), str("a"), str("b"), str("b"), num("2")), api.OK}, {values(object(4), str("a"), object(2), str("a"), num("1"), str("b"), num("2")), api.OK}, {values(object(4), str("a"), object(2), str("a"), num("1"), str("a"), num("2")), api.ErrForm}, {values(object(4), str("a"), array(0), num("1"), num("2")), api.ErrForm},
		{deep(32, api.JArray), api.OK}, {deep(33, api.JArray), api.ErrLimit}, {deep(32, api.JObject), api.OK}, {deep(33, api.JObject), api.ErrLimit}, {deep(4095, api.JArray), api.ErrLimit}, {append(deep(40, api.JArray), num("1")), api.ErrForm}, {append(deep(4000, api.JArray)[:4000], word(9)), api.ErrForm},
		{wide(4095), api.OK}, {wide(4096), api.ErrLimit}, {append(wide(4096), word(9)), api.ErrLimit},
		{values(str(long(262142))), api.OK}, {values(str(long(262143))), api.ErrLimit}, {values(str(long(262144))), api.ErrLimit}, {values(array(2), str(long(262138)), num("1")), api.OK}, {values(array(2), str(long(262139)), num("1")), api.ErrLimit}, {values(array(2), str(long(262140)), num("1")), api.ErrLimit}, {values(array(2), str(long(262141)), num("1")), api.ErrLimit}, {values(array(2), str(long(262141)), str("")), api.ErrLimit}, {values(str(strings.Repeat("\x00", 43691))), api.ErrLimit}, {values(str(strings.Repeat("\x00", 43690) + "aa")), api.OK}, {values(array(2), str(long(262142)), num("x")), api.ErrForm}, {values(array(2), str(long(300000)), str("a"), num("1")), api.ErrForm}, {values(str(strings.Repeat(`"`, 131071))), api.OK}, {values(str(strings.Repeat(`"`, 131072))), api.ErrLimit},
	} {
		s, e := json.Encode(c.l)
		if e != c.e || e != api.OK && s != "" {
			t.Errorf("%d: %d bytes, %v", i, len(s), e)
		}
		if e == api.OK {
			if l, at, e := json.Decode(s, most); !same(l, c.l) || at != 0 || e != api.OK {
				t.Errorf("%d: %d, %v", i, at, e)
			}
		}
	}
}

// told is what a reading by the chapter's words comes to.
type told struct {
	l  []api.Value
	at int
	e  api.Errno
}

var whole = regexp.MustCompile(`^-?(0|[1-9][0-9]*)(\.[0-9]+)?([eE][+-]?[0-9]+)?$`)

// begins is what signs of UTF-8 of several bytes begin with.
var begins = func() map[string]int {
	m := map[string]int{}
	for r := rune(128); r <= utf8.MaxRune; r++ {
		if utf8.ValidRune(r) {
			s := string(r)
			for n := 1; n < len(s) && n < 3; n++ {
				m[s[:n]] = len(s)
			}
			if len(s) == 4 && r%64 == 0 {
				m[s[:3]] = 4
			}
		}
	}
	return m
}()

// words reads by the chapter's words; each value calls itself for what it holds.
type words struct {
	s          string
	lim        api.Limits
	p, depth   int
	l          []api.Value
	blanksOnly bool
}

func byWords(s string, lim api.Limits) (out told) {
	w := &words{s: s, lim: lim}
	defer func() {
		if x := recover(); x != nil {
			out = x.(told)
		}
	}()
	w.blanks()
	w.value()
	for w.p < len(s) {
		if !strings.Contains(" \t\n\r", string(rune(w.want()))) || s[w.p] >= 128 {
			w.fault(api.ErrForm, w.p)
		}
		w.p++
	}
	return told{w.l, 0, api.OK}
}

func (w *words) fault(e api.Errno, at int) { panic(told{nil, at, e}) }

func (w *words) want() byte {
	if len(w.s) <= w.p {
		w.fault(api.ErrForm, len(w.s))
	}
	if w.p >= w.lim.Bytes {
		w.fault(api.ErrLimit, w.lim.Bytes)
	}
	return w.s[w.p]
}

func (w *words) blanks() {
	for b := w.want(); b == 0x20 || b == 9 || b == 10 || b == 13; b = w.want() {
		w.p++
	}
}

func (w *words) item(at int) {
	if len(w.l) >= w.lim.Items {
		w.fault(api.ErrLimit, at)
	}
}

func (w *words) value() {
	b := w.want()
	if !strings.ContainsRune(`{["-tfn0123456789`, rune(b)) || b >= 128 {
		w.fault(api.ErrForm, w.p)
	}
	w.item(w.p)
	if (b == '{' || b == '[') && w.depth >= w.lim.Depth {
		w.fault(api.ErrLimit, w.p)
	}
	here := len(w.l)
	switch b {
	case 't', 'f', 'n':
		name := map[byte]string{'t': "true", 'f': "false", 'n': "null"}[b]
		for i := range name {
			if w.want() != name[i] {
				w.fault(api.ErrForm, w.p)
			}
			w.p++
		}
		w.l = append(w.l, word(map[byte]int{'t': api.JTrue, 'f': api.JFalse, 'n': api.JNull}[b]))
	case '"':
		w.l = append(w.l, str(w.text()))
	case '[':
		w.l = append(w.l, array(0))
		w.depth++
		w.p++
		w.blanks()
		for first := true; first && w.s[w.p] != ']' || !first; first = false {
			w.value()
			w.l[here].Kids++
			w.blanks()
			if w.s[w.p] == ']' {
				break
			}
			if w.s[w.p] != ',' {
				w.fault(api.ErrForm, w.p)
			}
			w.p++
			w.blanks()
		}
		w.p++
		w.depth--
	case '{':
		w.object(here)
	default:
		from := w.p
		for w.p < len(w.s) && w.p < w.lim.Bytes && (whole.MatchString(w.s[from:w.p+1]) || whole.MatchString(w.s[from:w.p+1]+"0")) {
			w.p++
		}
		if !whole.MatchString(w.s[from:w.p]) {
			w.want()
			w.fault(api.ErrForm, w.p)
		}
		w.l = append(w.l, num(w.s[from:w.p]))
	}
}

func (w *words) object(here int) {
	w.l = append(w.l, object(0))
	w.depth++
	w.p++
	names := map[string]bool{}
	w.blanks()
	for first := true; first && w.s[w.p] != '}' || !first; first = false {
		at := w.p
		if w.s[at] != '"' {
			w.fault(api.ErrForm, at)
		}
		w.item(at)
		w.l = append(w.l, str(""))
		name := w.text()
		w.l[len(w.l)-1].Text = name
		if names[name] {
			w.fault(api.ErrForm, at)
		}
		names[name] = true
		w.blanks()
		if w.s[w.p] != ':' {
			w.fault(api.ErrForm, w.p)
		}
		w.p++
		w.blanks()
		w.value()
		w.l[here].Kids += 2
		w.blanks()
		if w.s[w.p] == '}' {
			break
		}
		if w.s[w.p] != ',' {
			w.fault(api.ErrForm, w.p)
		}
		w.p++
		w.blanks()
	}
	w.p++
	w.depth--
}

func (w *words) four() rune {
	n := rune(0)
	for range 4 {
		i := strings.IndexByte("0123456789abcdefABCDEF", w.want())
		if i < 0 {
			w.fault(api.ErrForm, w.p)
		}
		if i > 15 {
			i -= 6
		}
		n = 16*n + rune(i)
		w.p++
	}
	return n
}

func (w *words) text() string {
	out := ""
	for w.p++; ; {
		b := w.want()
		w.p++
		switch {
		case b == '"':
			return out
		case b < 0x20:
			w.fault(api.ErrForm, w.p-1)
		case b == '\\':
			c := w.want()
			w.p++
			if i := strings.IndexByte(`"\/bfnrt`, c); i >= 0 {
				out += "\"\\/\x08\x0c\x0a\x0d\x09"[i : i+1]
				continue
			}
			if c != 'u' {
				w.fault(api.ErrForm, w.p-1)
			}
			n := w.four()
			if n >= 0xdc00 && n <= 0xdfff {
				w.fault(api.ErrForm, w.p-1)
			}
			if n >= 0xd800 && n <= 0xdbff {
				for _, x := range []byte(`\u`) {
					if w.want() != x {
						w.fault(api.ErrForm, w.p)
					}
					w.p++
				}
				m := w.four()
				if m < 0xdc00 || m > 0xdfff {
					w.fault(api.ErrForm, w.p-1)
				}
				n = 0x10000 + 0x400*(n-0xd800) + m - 0xdc00
			}
			out += string(n)
		case b >= 128:
			sign := string([]byte{b})
			if begins[sign] == 0 {
				w.fault(api.ErrForm, w.p-1)
			}
			for !utf8.ValidString(sign) {
				c := w.want()
				sign += string([]byte{c})
				if begins[sign] == 0 && !utf8.ValidString(sign) {
					w.fault(api.ErrForm, w.p)
				}
				w.p++
			}
			out += sign
		default:
			out += string([]byte{b})
		}
	}
}

// some tells a text of a value, with blanks and other ways to tell signs.
func some(r *rand.Rand, depth int) string {
	blank := func() string { return []string{"", "", "", " ", "\n", "\t\r"}[r.Intn(6)] }
	switch k := r.Intn(8); {
	case k < 3 && depth > 0:
		s := "[" + blank()
		for i := range r.Intn(4) {
			if i > 0 {
				s += blank() + "," + blank()
			}
			s += some(r, depth-1)
		}
		return s + blank() + "]"
	case k < 5 && depth > 0:
		s := "{" + blank()
		for i := range r.Intn(4) {
			if i > 0 {
				s += blank() + "," + blank()
			}
			s += []string{`"a"`, `"b"`, `"\u0061"`, `""`, `"é"`, `"c"`, `"dd"`}[r.Intn(7)] + blank() + ":" + blank() + some(r, depth-1)
		}
		return s + blank() + "}"
	case k < 6:
		return []string{"0", "-1", "12.5", "1e9", "-0.5E-3", "100", "1E+2"}[r.Intn(7)]
	case k < 7:
		s := `"`
		for range r.Intn(4) {
			s += []string{"a", "é", "\u20ac", "\U0001f600", `\n`, `\u00e9`, `\ud83d\ude00`, `\"`, `\\`, `\/`, "\x7f", `\u0001`, "\xed\x9f\xbf", "\xf4\x8f\xbf\xbf", "\xe0\xa0\x80"}[r.Intn(15)]
		}
		return s + `"`
	}
	return []string{"true", "false", "null"}[r.Intn(3)]
}

func changed(r *rand.Rand, s string) string {
	b := []byte(s)
	for range r.Intn(3) {
		if len(b) == 0 {
			break
		}
		i := r.Intn(len(b))
		switch r.Intn(4) {
		case 0:
			b[i] = byte(r.Intn(256))
		case 1:
			b[i] = `{}[]",:\utfn-0e.1D8`[r.Intn(19)]
		case 2:
			b = append(b[:i], b[i+1:]...)
		case 3:
			b = append(b[:i], append([]byte{"{}[]\",: \\u0-.e\x80\xed"[r.Intn(16)]}, b[i:]...)...)
		}
	}
	if len(b) > 0 && r.Intn(5) == 0 {
		b = b[:r.Intn(len(b)+1)]
	}
	return string(b)
}

// P16.1, P16.3: readings by the chapter's words of many texts, within many limits.
func TestReadings(t *testing.T) {
	r := rand.New(rand.NewSource(1))
	found := map[api.Errno]int{}
	for range 100000 {
		s := changed(r, some(r, 4))
		if r.Intn(3) == 0 {
			s = changed(r, s)
		}
		lim := most
		if r.Intn(2) == 0 {
			lim = limits(1+r.Intn(4), 1+r.Intn(10), 1+r.Intn(len(s)+3))
		}
		want := byWords(s, lim)
		l, at, e := json.Decode(s, lim)
		if !same(l, want.l) || at != want.at || e != want.e {
			t.Fatalf("%q within %v: %v, %d, %v, not %v", s, lim, l, at, e, want)
		}
		found[e]++
		if e != api.OK {
			continue
		}
		if !stdjson.Valid([]byte(s)) {
			t.Fatalf("%q is none", s)
		}
		text, e := json.Encode(l)
		if e != api.OK {
			t.Fatalf("%q: %v", s, e)
		}
		back, at, e := json.Decode(text, most)
		if again, e2 := json.Encode(back); !same(back, l) || at != 0 || e != api.OK || e2 != api.OK || again != text {
			t.Fatalf("%q: %q, %v, %v", s, text, back, e)
		}
		var a, b any
		if stdjson.Unmarshal([]byte(s), &a) != nil || stdjson.Unmarshal([]byte(text), &b) != nil || !reflect.DeepEqual(a, b) {
			t.Fatalf("%q: %q", s, text)
		}
		more := limits(lim.Depth+r.Intn(33-lim.Depth), lim.Items+r.Intn(4097-lim.Items), lim.Bytes+r.Intn(262145-lim.Bytes))
		if again, _, e := json.Decode(s, more); e != api.OK || !same(again, l) {
			t.Fatalf("%q within %v: %v", s, more, e)
		}
	}
	if found[api.OK] < 1000 || found[api.ErrForm] < 1000 || found[api.ErrLimit] < 1000 {
		t.Error(found)
	}
}

// P16.2: all signs below 128 in strings.
func TestSigns(t *testing.T) {
	for b := range 128 {
		s, e := json.Encode(values(str(string(rune(b)))))
		want := `"` + string(rune(b)) + `"`
		switch {
		case b == '"' || b == '\\':
			want = `"\` + string(rune(b)) + `"`
		case b < 16:
			want = `"\u000` + "0123456789abcdef"[b:b+1] + `"`
		case b < 32:
			want = `"\u001` + "0123456789abcdef"[b-16:b-15] + `"`
		}
		if s != want || e != api.OK {
			t.Errorf("%d: %s, %v", b, s, e)
		}
	}
}

// R4
func TestOwn(t *testing.T) {
	a, _, _ := json.Decode("[1,2]", most)
	b, _, _ := json.Decode("[1,2]", most)
	_ = append(a[:1], str("x"))
	if b[1].Text != "1" {
		t.Error("shared")
	}
	l := make([]api.Value, 2, 5)
	l[0], l[1] = array(1), num("1")
	before := append([]api.Value{}, l[:5]...)
	json.Encode(l)
	if !reflect.DeepEqual(l[:5], before) {
		t.Error("changed")
	}
}
