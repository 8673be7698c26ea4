package jsonfeed_test

import (
	"math/rand"
	"reflect"
	"strings"
	"testing"

	"pyxis/api"
	"pyxis/json"
	"pyxis/jsonfeed"
)

var most = api.Limits{Depth: 32, Items: 4096, Bytes: 262144, Rounds: 4096}

func limits(depth, items, n int) api.Limits {
	return api.Limits{Depth: depth, Items: items, Bytes: n, Rounds: 1}
}

func bytewise(s string) []string {
	var out []string
	for i := range len(s) {
		out = append(out, s[i:i+1])
	}
	return out
}

// fresh is a feed to which pieces were written, and what the last one answered.
func fresh(t *testing.T, lim api.Limits, pieces ...string) (*jsonfeed.Feed, api.Errno) {
	t.Helper()
	f, e := jsonfeed.New(lim)
	if f == nil || e != api.OK {
		t.Fatal(lim, e)
	}
	for _, s := range pieces {
		e = f.Write(s)
	}
	return f, e
}

// told is the fault that layer 16 tells of a text whatever else follows.
func told(s string, lim api.Limits) api.Errno {
	_, at, e := json.Decode(s, lim)
	if e == api.ErrForm && at == len(s) {
		return api.OK // it is just not whole
	}
	return e
}

// holds asks all answers of a feed to which a text was written.
func holds(t *testing.T, f *jsonfeed.Feed, s string, lim api.Limits) {
	t.Helper()
	want, wantAt, wantE := json.Decode(s, lim)
	for range 2 {
		l, at, e := f.End()
		if len(l)+len(want) > 0 && !reflect.DeepEqual(l, want) || at != wantAt || e != wantE {
			t.Fatalf("End of %q within %v: %v, %d, %v, not %v, %d, %v", s, lim, l, at, e, want, wantAt, wantE)
		}
		if e != api.OK && l != nil {
			t.Fatalf("End of %q within %v: a list beside %v", s, lim, e)
		}
	}
	if got := f.Write(""); got != told(s, lim) {
		t.Fatalf("Write of %q within %v: %v, not %v", s, lim, got, told(s, lim))
	}
	n := 0
	for n < len(s) && n < lim.Bytes { // as many as there were when the fault was told
		n++
		if told(s[:n], lim) != api.OK {
			break
		}
	}
	taken, depth := f.State()
	if taken != n || depth < 0 || depth > lim.Depth {
		t.Fatalf("State of %q within %v: %d, %d; %d were wanted", s, lim, taken, depth, n)
	}
}

// The chapter's examples.
func TestExamples(t *testing.T) {
	f, _ := fresh(t, most)
	for _, s := range []string{"[1", "2", "]"} {
		if e := f.Write(s); e != api.OK {
			t.Error(s, e)
		}
		if s == "[1" {
			if taken, depth := f.State(); taken != 2 || depth != 1 {
				t.Error(taken, depth)
			}
		}
	}
	if l, at, e := f.End(); len(l) != 2 || l[1].Text != "12" || at != 0 || e != api.OK {
		t.Error(l, at, e)
	}
	f, _ = fresh(t, most, "1")
	if l, at, e := f.End(); len(l) != 1 || l[0].Text != "1" || at != 0 || e != api.OK {
		t.Error(l, at, e)
	}
	f.Write(" ")
	if l, at, e := f.End(); len(l) != 1 || l[0].Text != "1" || at != 0 || e != api.OK {
		t.Error(l, at, e)
	}
	if e := f.Write("x"); e != api.ErrForm {
		t.Error(e)
	}
	if l, at, e := f.End(); l != nil || at != 2 || e != api.ErrForm {
		t.Error(l, at, e)
	}
}

// P19.1
func TestNew(t *testing.T) {
	for _, lim := range []api.Limits{{}, limits(0, 1, 1), limits(33, 1, 1), limits(1, 0, 1), limits(1, 4097, 1), limits(1, 1, 0), limits(1, 1, 262145), {Depth: 1, Items: 1, Bytes: 1}} {
		if f, e := jsonfeed.New(lim); f != nil || e != api.ErrArg {
			t.Error(lim, e)
		}
	}
	f, _ := fresh(t, most)
	holds(t, f, "", most)
}

// P19.3: State, behind faults too.
func TestState(t *testing.T) {
	for _, c := range []struct {
		s           string
		lim         api.Limits
		taken, deep int
	}{
		{"", most, 0, 0}, {" ", most, 1, 0}, {"[", most, 1, 1}, {"[1", most, 2, 1}, {"[1]", most, 3, 0}, {`{"a":[`, most, 6, 2}, {`{"a":[]`, most, 7, 1}, {`{"a":[]}`, most, 8, 0}, {"12", most, 2, 0}, {"[[],[", most, 5, 2}, {`["[`, most, 3, 1}, {"tru", most, 3, 0}, {"[]  ", most, 4, 0},
		{"x", most, 1, 0}, {"xyz", most, 1, 0}, {"01", most, 2, 0}, {"1x", most, 2, 0}, {"-x", most, 2, 0}, {"[1,]", most, 4, 1}, {"[}", most, 2, 1}, {`{"a":1,"a":2}`, most, 10, 1}, {`{"a":1,"a`, most, 9, 1}, {"[[1]x", most, 5, 1}, {`"\ud800"`, most, 8, 0}, {"[]]", most, 3, 0},
		{"[[", limits(1, 9, 9), 2, 1}, {"[1,2]", limits(1, 2, 9), 4, 1}, {"[12]", limits(1, 2, 3), 3, 1}, {"123", limits(1, 2, 2), 2, 0}, {"[", limits(1, 1, 1), 1, 1}, {"[1]", limits(1, 2, 2), 2, 1}, {"-", limits(1, 1, 1), 1, 0}, {"-1", limits(1, 1, 1), 1, 0}, {"[]x", limits(1, 1, 2), 2, 0},
	} {
		for _, pieces := range [][]string{{c.s}, bytewise(c.s)} {
			f, _ := fresh(t, c.lim, pieces...)
			if taken, deep := f.State(); taken != c.taken || deep != c.deep {
				t.Errorf("State of %q within %v: %d, %d", c.s, c.lim, taken, deep)
			}
			holds(t, f, c.s, c.lim)
		}
	}
}

// some tells a text of a value, with blanks and other ways to tell signs.
func some(r *rand.Rand, depth int) string {
	blank := func() string { return []string{"", "", "", " ", "\n", "\t\r"}[r.Intn(6)] }
	switch k := r.Intn(8); {
	case k < 3 && depth > 0:
		s := "[" + blank()
		for i := range r.Intn(4) {
			if i > 0 {
				s += blank() + "," + blank()
			}
			s += some(r, depth-1)
		}
		return s + blank() + "]"
	case k < 5 && depth > 0:
		s := "{" + blank()
		for i := range r.Intn(4) {
			if i > 0 {
				s += blank() + "," + blank()
			}
			s += []string{`"a"`, `"b"`, `"\u0061"`, `""`, `"é"`, `"c"`, `"dd"`}[r.Intn(7)] + blank() + ":" + blank() + some(r, depth-1)
		}
		return s + blank() + "}"
	case k < 6:
		return []string{"0", "-1", "12.5", "1e9", "-0.5E-3", "100", "1E+2"}[r.Intn(7)]
	case k < 7:
		s := `"`
		for range r.Intn(4) {
			s += []string{"a", "é", "\u20ac", "\U0001f600", `\n`, `\u00e9`, `\ud83d\ude00`, `\"`, `\\`, `\/`, "\x7f", `\u0001`, "\xed\x9f\xbf", "\xf4\x8f\xbf\xbf", "\xe0\xa0\x80"}[r.Intn(15)]
		}
		return s + `"`
	}
	return []string{"true", "false", "null"}[r.Intn(3)]
}

func changed(r *rand.Rand, s string) string {
	b := []byte(s)
	for range r.Intn(3) {
		if len(b) == 0 {
			break
		}
		i := r.Intn(len(b))
		switch r.Intn(4) {
		case 0:
			b[i] = byte(r.Intn(256))
		case 1:
			b[i] = `{}[]",:\utfn-0e.1D8`[r.Intn(19)]
		case 2:
			b = append(b[:i], b[i+1:]...)
		case 3:
			b = append(b[:i], append([]byte{"{}[]\",: \\u0-.e\x80\xed"[r.Intn(16)]}, b[i:]...)...)
		}
	}
	return string(b)
}

// P19.1 to P19.4: many texts in many pieces, asked behind each.
func TestPieces(t *testing.T) {
	r := rand.New(rand.NewSource(1))
	found := map[api.Errno]int{}
	for range 8000 {
		s := changed(r, some(r, 4))
		lim := most
		if r.Intn(2) == 0 {
			lim = limits(1+r.Intn(4), 1+r.Intn(10), 1+r.Intn(len(s)+3))
		}
		byOne, _ := fresh(t, lim)
		for i := range len(s) {
			byOne.Write(s[i : i+1])
			if len(s) < 60 || i%50 == 0 {
				holds(t, byOne, s[:i+1], lim)
			}
		}
		atOnce, e := fresh(t, lim, s)
		holds(t, atOnce, s, lim)
		found[e]++
		n := r.Intn(len(s) + 1)
		byTwo, _ := fresh(t, lim, s[:n], "", s[n:])
		holds(t, byTwo, s, lim)
		a, b := atOnce.State()
		c, d := byOne.State()
		x, y := byTwo.State()
		if a != c || b != d || a != x || b != y {
			t.Fatalf("State of %q within %v: %d, %d; %d, %d; %d, %d", s, lim, a, b, c, d, x, y)
		}
	}
	for _, e := range []api.Errno{api.OK, api.ErrForm, api.ErrLimit} {
		if found[e] < 500 {
			t.Error(e, "is seldom told:", found)
		}
	}
}

// P19.2: what End answers is new, nothing is changed by it, and more may be written.
func TestEnd(t *testing.T) {
	f, _ := fresh(t, most, "[1,2]")
	a, _, _ := f.End()
	a[1].Text = "7"
	_ = append(a[:0], api.Value{Kind: api.JNull})
	b, _, _ := f.End()
	if b[0].Kind != api.JArray || b[1].Text != "1" {
		t.Error("shared")
	}
	f, _ = fresh(t, most, "12")
	f.End()
	f.Write("3")
	if l, at, e := f.End(); len(l) != 1 || l[0].Text != "123" || at != 0 || e != api.OK {
		t.Error(l, at, e)
	}
	f.Write("e")
	if l, at, e := f.End(); l != nil || at != 4 || e != api.ErrForm {
		t.Error(l, at, e)
	}
	f.Write("1\n")
	if l, at, e := f.End(); len(l) != 1 || l[0].Text != "123e1" || at != 0 || e != api.OK {
		t.Error(l, at, e)
	}
	if e := f.Write("1"); e != api.ErrForm {
		t.Error(e)
	}
	if e := f.Write("\n\n"); e != api.ErrForm {
		t.Error(e)
	}
	if l, at, e := f.End(); l != nil || at != 6 || e != api.ErrForm {
		t.Error(l, at, e)
	}
}

// The longest of all.
func TestLong(t *testing.T) {
	s := `["` + strings.Repeat("a", api.MaxBytes-4) + `"]`
	f, _ := fresh(t, most, s[:1000], s[1000:])
	holds2 := func(s string, e api.Errno) {
		want, wantAt, wantE := json.Decode(s, most)
		l, at, got := f.End()
		if !reflect.DeepEqual(l, want) && len(l)+len(want) > 0 || at != wantAt || got != wantE || got != e {
			t.Error(at, got, wantAt, wantE)
		}
	}
	holds2(s, api.OK)
	if e := f.Write(" "); e != api.ErrLimit {
		t.Error(e)
	}
	holds2(s+" ", api.ErrLimit)
}

// P19.4
func TestNil(t *testing.T) {
	for _, f := range []*jsonfeed.Feed{nil, {}} {
		if e := f.Write("1"); e != api.ErrNil {
			t.Error(e)
		}
		if l, at, e := f.End(); l != nil || at != 0 || e != api.ErrNil {
			t.Error(l, at, e)
		}
		if a, b := f.State(); a != 0 || b != 0 {
			t.Error(a, b)
		}
	}
}
