package derfeed_test

import (
	"encoding/hex"
	"math/rand"
	"reflect"
	"strings"
	"testing"

	"pyxis/api"
	"pyxis/der"
	"pyxis/derfeed"
)

var most = api.Limits{Depth: 32, Items: 4096, Bytes: 262144, Rounds: 4096}

func bin(s string) string {
	b, err := hex.DecodeString(strings.ReplaceAll(s, " ", ""))
	if err != nil {
		panic(err)
	}
	return string(b)
}

func limits(depth, items, n int) api.Limits {
	return api.Limits{Depth: depth, Items: items, Bytes: n, Rounds: 1}
}

func bytewise(s string) []string {
	var out []string
	for i := range len(s) {
		out = append(out, s[i:i+1])
	}
	return out
}

// fresh is a feed to which pieces were written, and what the last one answered.
func fresh(t *testing.T, lim api.Limits, pieces ...string) (*derfeed.Feed, api.Errno) {
	t.Helper()
	f, e := derfeed.New(lim)
	if f == nil || e != api.OK {
		t.Fatal(lim, e)
	}
	for _, s := range pieces {
		e = f.Write(s)
	}
	return f, e
}

// told is the fault that layer 15 tells of a text whatever else follows, and where.
func told(s string, lim api.Limits) (api.Errno, int) {
	_, at, e := der.Decode(s, lim)
	if e == api.ErrForm && at == len(s) {
		return api.OK, 0 // it is just not whole
	}
	return e, at
}

// holds asks all answers of a feed to which a text was written.
func holds(t *testing.T, f *derfeed.Feed, s string, lim api.Limits) {
	t.Helper()
	want, wantAt, wantE := der.Decode(s, lim)
	for range 2 {
		l, at, e := f.End()
		if len(l)+len(want) > 0 && !reflect.DeepEqual(l, want) || at != wantAt || e != wantE {
			t.Fatalf("End of %x within %v: %v, %d, %v, not %v, %d, %v", s, lim, l, at, e, want, wantAt, wantE)
		}
		if e != api.OK && l != nil {
			t.Fatalf("End of %x within %v: a list beside %v", s, lim, e)
		}
	}
	e, _ := told(s, lim)
	if got := f.Write(""); got != e {
		t.Fatalf("Write of %x within %v: %v, not %v", s, lim, got, e)
	}
	n := 0
	for n < len(s) && n < lim.Bytes { // as many as there were when the fault was told
		n++
		if e, _ := told(s[:n], lim); e != api.OK {
			break
		}
	}
	taken, depth := f.State()
	if taken != n || depth < 0 || depth > lim.Depth {
		t.Fatalf("State of %x within %v: %d, %d; %d were wanted", s, lim, taken, depth, n)
	}
}

// The chapter's examples.
func TestExamples(t *testing.T) {
	f, _ := fresh(t, most)
	for _, s := range []string{"30", "02", "05 00"} {
		if e := f.Write(bin(s)); e != api.OK {
			t.Error(s, e)
		}
	}
	if l, at, e := f.End(); len(l) != 2 || at != 0 || e != api.OK {
		t.Error(l, at, e)
	}
	f, e := fresh(t, most, bin("30 01 05"))
	if e != api.OK {
		t.Error(e)
	}
	if e := f.Write("\x00"); e != api.ErrForm {
		t.Error(e)
	}
	if l, at, e := f.End(); l != nil || at != 2 || e != api.ErrForm {
		t.Error(l, at, e)
	}
	f, _ = fresh(t, most, bin("30 02"))
	if taken, depth := f.State(); taken != 2 || depth != 1 {
		t.Error(taken, depth)
	}
}

// P18.1
func TestNew(t *testing.T) {
	for _, lim := range []api.Limits{{}, limits(0, 1, 1), limits(33, 1, 1), limits(1, 0, 1), limits(1, 4097, 1), limits(1, 1, 0), limits(1, 1, 262145), {Depth: 1, Items: 1, Bytes: 1}} {
		if f, e := derfeed.New(lim); f != nil || e != api.ErrArg {
			t.Error(lim, e)
		}
	}
	f, _ := fresh(t, most)
	holds(t, f, "", most)
}

// P18.3: State, behind each byte and behind faults.
func TestState(t *testing.T) {
	for _, c := range []struct {
		s           string
		lim         api.Limits
		taken, deep int
	}{
		{"", most, 0, 0}, {"30 02", most, 2, 1}, {"30 02 05", most, 3, 1}, {"30 02 05 00", most, 4, 0}, {"30 04 05 00", most, 4, 1}, {"30 04 05 00 04", most, 5, 1}, {"30 04 30 02", most, 4, 2}, {"30 06 30 02 05 00", most, 6, 1}, {"30 06 30 02 05 00 05 00", most, 8, 0}, {"30 00", most, 2, 0}, {"30 02 30 00", most, 4, 0}, {"a0 05 30 03 04 01", most, 6, 2}, {"a0 05 30 03 04 01 61", most, 7, 0}, {"30 81 80 04", most, 4, 1},
		{"05 00 05 00", most, 3, 0}, {"1f 00", most, 1, 0}, {"30 04 1f 00", most, 3, 1}, {"30 04 04 80 00", most, 4, 1}, {"30 04 30 02 01 00 00", most, 6, 2}, {"30 05 30 03 01 01 05 00", most, 7, 2}, {"30 02 04 03 00", most, 4, 1}, {"31 06 30 02 05 00 30 00 00", most, 8, 1}, {"31 06 04 02 05 00 04 00 00", most, 8, 1}, {"04 81 7f 00", most, 3, 0}, {"04 82 00 80", most, 3, 0},
		{"30 02 30 00", limits(1, 9, 9), 3, 1}, {"30 02 05 00", limits(1, 1, 9), 3, 1}, {"30 02 05 00", limits(1, 9, 3), 3, 1}, {"04 05 61 62 63", limits(1, 1, 4), 4, 0}, {"05 00 05", limits(1, 1, 2), 2, 0}, {"05 00 05", limits(1, 1, 3), 3, 0},
	} {
		s := bin(c.s)
		for _, pieces := range [][]string{{s}, bytewise(s)} {
			f, _ := fresh(t, c.lim, pieces...)
			if taken, deep := f.State(); taken != c.taken || deep != c.deep {
				t.Errorf("State of %s within %v: %d, %d", c.s, c.lim, taken, deep)
			}
			holds(t, f, s, c.lim)
		}
	}
}

func leaf(tag byte, body string) api.Node { return api.Node{Tag: tag, Kids: -1, Body: body} }

// some tells a tree of not too many elements.
func some(r *rand.Rand, depth int) []api.Node {
	switch k := r.Intn(8); {
	case k < 4 && depth > 0:
		n := r.Intn(4)
		l := []api.Node{{Tag: []byte{0x30, 0x31, 0xa0, 0xa3}[r.Intn(4)], Kids: n}}
		for range n {
			l = append(l, some(r, depth-1)...)
		}
		return l
	case k == 5:
		return []api.Node{leaf(2, []string{"\x00", "\x7f", "\x00\x80", "\xff", "\x80", "\x01\x00"}[r.Intn(6)])}
	case k == 6:
		return []api.Node{leaf(6, []string{"*", "*\x86\x48", "\x55\x04\x03"}[r.Intn(3)])}
	case k == 7:
		return []api.Node{leaf([]byte{4, 0x80, 0x81}[r.Intn(3)], strings.Repeat("x", []int{0, 1, 5, 127, 128, 260}[r.Intn(6)]))}
	}
	return []api.Node{[]api.Node{leaf(5, ""), leaf(1, "\xff"), leaf(3, "\x04\xf0"), leaf(4, "abc"), leaf(12, "é")}[r.Intn(5)]}
}

func changed(r *rand.Rand, s string) string {
	b := []byte(s)
	for range r.Intn(3) {
		if len(b) == 0 {
			break
		}
		i := r.Intn(len(b))
		switch r.Intn(4) {
		case 0:
			b[i] = byte(r.Intn(256))
		case 1:
			b[i] += byte(r.Intn(3)) - 1
		case 2:
			b = append(b[:i], b[i+1:]...)
		case 3:
			b = append(b[:i], append([]byte{[]byte{0, 5, 0x30, 0x31, 0x81, 0x80, 4, 1}[r.Intn(8)]}, b[i:]...)...)
		}
	}
	return string(b)
}

// P18.1 to P18.4: many texts in many pieces, asked behind each.
func TestPieces(t *testing.T) {
	r := rand.New(rand.NewSource(1))
	found := map[api.Errno]int{}
	for range 6000 {
		s := ""
		if r.Intn(4) > 0 {
			s, _ = der.Encode(some(r, 4))
			s = changed(r, s)
		} else {
			b := make([]byte, r.Intn(12))
			for i := range b {
				b[i] = []byte{0, 1, 2, 3, 4, 5, 6, 0x30, 0x31, 0x80, 0xa0, 0x81, 0x1f, 0xff}[r.Intn(14)]
			}
			s = string(b)
		}
		lim := most
		if r.Intn(2) == 0 {
			lim = limits(1+r.Intn(5), 1+r.Intn(10), 1+r.Intn(len(s)+3))
		}
		byOne, _ := fresh(t, lim)
		for i := range len(s) {
			byOne.Write(s[i : i+1])
			if len(s) < 60 || i%50 == 0 {
				holds(t, byOne, s[:i+1], lim)
			}
		}
		atOnce, e := fresh(t, lim, s)
		holds(t, atOnce, s, lim)
		found[e]++
		n := r.Intn(len(s) + 1)
		byTwo, _ := fresh(t, lim, s[:n], "", s[n:])
		holds(t, byTwo, s, lim)
		a, b := atOnce.State()
		c, d := byOne.State()
		x, y := byTwo.State()
		if a != c || b != d || a != x || b != y {
			t.Fatalf("State of %x within %v: %d, %d; %d, %d; %d, %d", s, lim, a, b, c, d, x, y)
		}
	}
	for _, e := range []api.Errno{api.OK, api.ErrForm, api.ErrLimit, api.ErrKind} {
		if found[e] < 100 {
			t.Error(e, "is seldom told:", found)
		}
	}
}

// P18.2: what End answers is new, and more may be written.
func TestEnd(t *testing.T) {
	f, _ := fresh(t, most, bin("30 04 05 00 05 00"))
	a, _, _ := f.End()
	a[1].Tag = 4
	_ = append(a[:0], leaf(4, "x"))
	b, _, _ := f.End()
	if b[0].Tag != 0x30 || b[1].Tag != 5 {
		t.Error("shared")
	}
	if e := f.Write("\x00"); e != api.ErrForm {
		t.Error(e)
	}
	if e := f.Write("\x00\x00"); e != api.ErrForm {
		t.Error(e)
	}
	if l, at, e := f.End(); l != nil || at != 6 || e != api.ErrForm {
		t.Error(l, at, e)
	}
	if taken, deep := f.State(); taken != 7 || deep != 0 {
		t.Error(taken, deep)
	}
}

// The longest of all.
func TestLong(t *testing.T) {
	s, e := der.Encode([]api.Node{{Tag: 0x30, Kids: 1}, leaf(4, strings.Repeat("a", api.MaxBytes-10))})
	if e != api.OK || len(s) != api.MaxBytes {
		t.Fatal(len(s), e)
	}
	f, _ := fresh(t, most, s[:1000], s[1000:])
	holds(t, f, s, most)
	if e := f.Write("x"); e != api.ErrLimit {
		t.Error(e)
	}
	holds(t, f, s+"x", most)
}

// P18.4
func TestNil(t *testing.T) {
	for _, f := range []*derfeed.Feed{nil, {}} {
		if e := f.Write("\x05\x00"); e != api.ErrNil {
			t.Error(e)
		}
		if l, at, e := f.End(); l != nil || at != 0 || e != api.ErrNil {
			t.Error(l, at, e)
		}
		if a, b := f.State(); a != 0 || b != 0 {
			t.Error(a, b)
		}
	}
}
