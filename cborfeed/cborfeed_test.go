package cborfeed_test

import (
	"encoding/hex"
	"math/rand"
	"reflect"
	"strings"
	"testing"

	"pyxis/api"
	"pyxis/cbor"
	"pyxis/cborfeed"
)

var most = api.Limits{Depth: 32, Items: 4096, Bytes: 262144, Rounds: 4096}

func bin(s string) string {
	b, err := hex.DecodeString(strings.ReplaceAll(s, " ", ""))
	if err != nil {
		panic(err)
	}
	return string(b)
}

func limits(depth, items, n int) api.Limits {
	return api.Limits{Depth: depth, Items: items, Bytes: n, Rounds: 1}
}

func bytewise(s string) []string {
	var out []string
	for i := range len(s) {
		out = append(out, s[i:i+1])
	}
	return out
}

// fresh is a feed to which pieces were written, and what the last one answered.
func fresh(t *testing.T, lim api.Limits, pieces ...string) (*cborfeed.Feed, api.Errno) {
	t.Helper()
	f, e := cborfeed.New(lim)
	if f == nil || e != api.OK {
		t.Fatal(lim, e)
	}
	for _, s := range pieces {
		e = f.Write(s)
	}
	return f, e
}

// told is the fault that layer 17 tells of a text whatever else follows, and where.
func told(s string, lim api.Limits) (api.Errno, int) {
	_, at, e := cbor.Decode(s, lim)
	if e == api.ErrForm && at == len(s) {
		return api.OK, 0 // it is just not whole
	}
	return e, at
}

// holds asks all answers of a feed to which a text was written.
func holds(t *testing.T, f *cborfeed.Feed, s string, lim api.Limits) {
	t.Helper()
	want, wantAt, wantE := cbor.Decode(s, lim)
	for range 2 {
		l, at, e := f.End()
		if len(l)+len(want) > 0 && !reflect.DeepEqual(l, want) || at != wantAt || e != wantE {
			t.Fatalf("End of %x within %v: %v, %d, %v, not %v, %d, %v", s, lim, l, at, e, want, wantAt, wantE)
		}
		if e != api.OK && l != nil {
			t.Fatalf("End of %x within %v: a list beside %v", s, lim, e)
		}
	}
	e, _ := told(s, lim)
	if got := f.Write(""); got != e {
		t.Fatalf("Write of %x within %v: %v, not %v", s, lim, got, e)
	}
	n := 0
	for n < len(s) && n < lim.Bytes { // as many as there were when the fault was told
		n++
		if e, _ := told(s[:n], lim); e != api.OK {
			break
		}
	}
	taken, depth := f.State()
	if taken != n || depth < 0 || depth > lim.Depth {
		t.Fatalf("State of %x within %v: %d, %d; %d were wanted", s, lim, taken, depth, n)
	}
}

// The chapter's examples.
func TestExamples(t *testing.T) {
	f, _ := fresh(t, most)
	for _, s := range []string{"82", "01", "41", "61"} {
		if e := f.Write(bin(s)); e != api.OK {
			t.Error(s, e)
		}
		if s == "01" {
			if taken, depth := f.State(); taken != 2 || depth != 1 {
				t.Error(taken, depth)
			}
		}
	}
	if l, at, e := f.End(); len(l) != 3 || at != 0 || e != api.OK {
		t.Error(l, at, e)
	}
	f, e := fresh(t, most, bin("81 18"))
	if e != api.OK {
		t.Error(e)
	}
	if e := f.Write("\x17"); e != api.ErrForm {
		t.Error(e)
	}
	if l, at, e := f.End(); l != nil || at != 1 || e != api.ErrForm {
		t.Error(l, at, e)
	}
}

// P20.1
func TestNew(t *testing.T) {
	for _, lim := range []api.Limits{{}, limits(0, 1, 1), limits(33, 1, 1), limits(1, 0, 1), limits(1, 4097, 1), limits(1, 1, 0), limits(1, 1, 262145), {Depth: 1, Items: 1, Bytes: 1}} {
		if f, e := cborfeed.New(lim); f != nil || e != api.ErrArg {
			t.Error(lim, e)
		}
	}
	f, _ := fresh(t, most)
	holds(t, f, "", most)
}

// P20.3: State, behind each byte and behind faults.
func TestState(t *testing.T) {
	for _, c := range []struct {
		s           string
		lim         api.Limits
		taken, deep int
	}{
		{"", most, 0, 0}, {"82", most, 1, 1}, {"82 01", most, 2, 1}, {"82 01 02", most, 3, 0}, {"82 81", most, 2, 2}, {"82 81 00", most, 3, 1}, {"a1", most, 1, 1}, {"a1 01", most, 2, 1}, {"a1 01 c1", most, 3, 2}, {"a1 01 c1 01", most, 4, 0}, {"80", most, 1, 0}, {"81 80", most, 2, 0}, {"42 61", most, 2, 0}, {"81 42 61", most, 3, 1}, {"18", most, 1, 0}, {"98 18 00", most, 3, 1},
		{"00 00", most, 2, 0}, {"1c", most, 1, 0}, {"f8 20", most, 1, 0}, {"81 18 17 00", most, 3, 1}, {"82 01 1f", most, 3, 1}, {"81 98 17", most, 3, 1}, {"a2 01 00 01 00", most, 4, 1}, {"a2 81 00 00 81 00", most, 6, 1}, {"a2 81 00 00 80 00", most, 5, 1}, {"81 61 ff 00", most, 3, 1}, {"a2 c1 01 00 c0 00", most, 6, 1},
		{"81 80", limits(1, 9, 9), 2, 1}, {"81 98 18", limits(1, 9, 9), 3, 1}, {"81 00", limits(1, 1, 9), 2, 1}, {"82 00 00", limits(1, 9, 2), 2, 1}, {"44 61 62 63", limits(1, 1, 3), 3, 0}, {"00 00", limits(1, 1, 1), 1, 0}, {"81 98", limits(1, 9, 9), 2, 1},
	} {
		s := bin(c.s)
		for _, pieces := range [][]string{{s}, bytewise(s)} {
			f, _ := fresh(t, c.lim, pieces...)
			if taken, deep := f.State(); taken != c.taken || deep != c.deep {
				t.Errorf("State of %s within %v: %d, %d", c.s, c.lim, taken, deep)
			}
			holds(t, f, s, c.lim)
		}
	}
}

func num(kind int, n uint64) api.Atom  { return api.Atom{Kind: kind, Num: n} }
func text(kind int, s string) api.Atom { return api.Atom{Kind: kind, Text: s} }

// some tells an item of not too many.
func some(r *rand.Rand, depth int) []api.Atom {
	numbers := []uint64{0, 1, 2, 23, 24, 255, 256, 65535, 65536, 1 << 32, 1<<64 - 1}
	switch k := r.Intn(9); {
	case k < 2 && depth > 0:
		n := r.Intn(4)
		l := []api.Atom{num(4, uint64(n))}
		for range n {
			l = append(l, some(r, depth-1)...)
		}
		return l
	case k < 4 && depth > 0:
		n := r.Intn(4)
		l := []api.Atom{num(5, uint64(n))}
		for i := range n {
			switch r.Intn(5) {
			case 0:
				l = append(l, some(r, depth-1)...)
			default:
				l = append(l, num(0, uint64(i)))
			}
			l = append(l, some(r, depth-1)...)
		}
		return l
	case k < 5 && depth > 0:
		return append([]api.Atom{num(6, numbers[r.Intn(11)])}, some(r, depth-1)...)
	case k < 7:
		return []api.Atom{num(r.Intn(2), numbers[r.Intn(11)])}
	case k < 8:
		return []api.Atom{text(2+r.Intn(2), []string{"", "a", "bé", strings.Repeat("x", 23), strings.Repeat("x", 24), strings.Repeat("x", 260)}[r.Intn(6)])}
	}
	return []api.Atom{num(7, uint64(20+r.Intn(4)))}
}

func changed(r *rand.Rand, s string) string {
	b := []byte(s)
	for range r.Intn(3) {
		if len(b) == 0 {
			break
		}
		i := r.Intn(len(b))
		switch r.Intn(4) {
		case 0:
			b[i] = byte(r.Intn(256))
		case 1:
			b[i] += byte(r.Intn(3)) - 1
		case 2:
			b = append(b[:i], b[i+1:]...)
		case 3:
			b = append(b[:i], append([]byte{[]byte{0, 0x18, 0x61, 0x81, 0xa1, 0xc1, 0x41, 0xf6}[r.Intn(8)]}, b[i:]...)...)
		}
	}
	return string(b)
}

// P20.1 to P20.4: many texts in many pieces, asked behind each.
func TestPieces(t *testing.T) {
	r := rand.New(rand.NewSource(1))
	found := map[api.Errno]int{}
	for range 6000 {
		s := ""
		if r.Intn(4) > 0 {
			s, _ = cbor.Encode(some(r, 4))
			s = changed(r, s)
		} else {
			b := make([]byte, r.Intn(10))
			for i := range b {
				b[i] = []byte{0, 1, 0x17, 0x18, 0x19, 0x20, 0x41, 0x61, 0x62, 0x80, 0x81, 0x82, 0xa1, 0xa2, 0xc1, 0xf6, 0xff, 0x98}[r.Intn(18)]
			}
			s = string(b)
		}
		lim := most
		if r.Intn(2) == 0 {
			lim = limits(1+r.Intn(5), 1+r.Intn(10), 1+r.Intn(len(s)+3))
		}
		byOne, _ := fresh(t, lim)
		for i := range len(s) {
			byOne.Write(s[i : i+1])
			if len(s) < 60 || i%50 == 0 {
				holds(t, byOne, s[:i+1], lim)
			}
		}
		atOnce, e := fresh(t, lim, s)
		holds(t, atOnce, s, lim)
		found[e]++
		n := r.Intn(len(s) + 1)
		byTwo, _ := fresh(t, lim, s[:n], "", s[n:])
		holds(t, byTwo, s, lim)
		a, b := atOnce.State()
		c, d := byOne.State()
		x, y := byTwo.State()
		if a != c || b != d || a != x || b != y {
			t.Fatalf("State of %x within %v: %d, %d; %d, %d; %d, %d", s, lim, a, b, c, d, x, y)
		}
	}
	for _, e := range []api.Errno{api.OK, api.ErrForm, api.ErrLimit, api.ErrKind} {
		if found[e] < 30 {
			t.Error(e, "is seldom told:", found)
		}
	}
}

// P20.2: what End answers is new, and more may be written.
func TestEnd(t *testing.T) {
	f, _ := fresh(t, most, bin("82 01 02"))
	a, _, _ := f.End()
	a[1].Num = 4
	_ = append(a[:0], text(2, "x"))
	b, _, _ := f.End()
	if b[0].Kind != api.CArray || b[1].Num != 1 {
		t.Error("shared")
	}
	if e := f.Write("\x00"); e != api.ErrForm {
		t.Error(e)
	}
	if e := f.Write("\x00\x00"); e != api.ErrForm {
		t.Error(e)
	}
	if l, at, e := f.End(); l != nil || at != 3 || e != api.ErrForm {
		t.Error(l, at, e)
	}
	if taken, deep := f.State(); taken != 4 || deep != 0 {
		t.Error(taken, deep)
	}
}

// The longest of all; and lengths and numbers beyond all bounds.
func TestLong(t *testing.T) {
	s, e := cbor.Encode([]api.Atom{num(4, 1), text(2, strings.Repeat("a", api.MaxBytes-6))})
	if e != api.OK || len(s) != api.MaxBytes {
		t.Fatal(len(s), e)
	}
	f, _ := fresh(t, most, s[:1000], s[1000:])
	if l, at, e := f.End(); len(l) != 2 || len(l[1].Text) != api.MaxBytes-6 || at != 0 || e != api.OK {
		t.Error(len(l), at, e)
	}
	if e := f.Write("x"); e != api.ErrLimit {
		t.Error(e)
	}
	if l, at, e := f.End(); l != nil || at != api.MaxBytes || e != api.ErrLimit {
		t.Error(len(l), at, e)
	}
	for _, s := range []string{"5b ff ff ff ff ff ff ff ff 00", "7b 80 00 00 00 00 00 00 00 ff", "9b ff ff ff ff ff ff ff ff 00", "bb ff ff ff ff ff ff ff ff 00", "bb 80 00 00 00 00 00 00 00 00", "db ff ff ff ff ff ff ff ff 00"} {
		f, _ := fresh(t, most, bin(s))
		holds(t, f, bin(s), most)
	}
}

// P20.4
func TestNil(t *testing.T) {
	for _, f := range []*cborfeed.Feed{nil, {}} {
		if e := f.Write("\x01"); e != api.ErrNil {
			t.Error(e)
		}
		if l, at, e := f.End(); l != nil || at != 0 || e != api.ErrNil {
			t.Error(l, at, e)
		}
		if a, b := f.State(); a != 0 || b != 0 {
			t.Error(a, b)
		}
	}
}
