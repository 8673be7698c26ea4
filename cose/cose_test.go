package cose_test

import (
	"encoding/hex"
	"math/rand"
	"reflect"
	"strings"
	"testing"

	"pyxis/api"
	"pyxis/cbor"
	"pyxis/cose"
)

var most = api.Limits{Depth: 32, Items: 4096, Bytes: 262144, Rounds: 4096}

func bin(s string) string {
	b, err := hex.DecodeString(strings.ReplaceAll(s, " ", ""))
	if err != nil {
		panic(err)
	}
	return string(b)
}

func long(n int) string { return strings.Repeat("x", n) }

func same(a, b api.Envelope) bool {
	if len(a.To) == 0 && len(b.To) == 0 {
		a.To, b.To = nil, nil
	}
	return reflect.DeepEqual(a, b)
}

// Items, in their bytes; the heads told here by hand.
func head(kind byte, n int) string {
	switch {
	case n < 24:
		return string([]byte{kind<<5 | byte(n)})
	case n < 256:
		return string([]byte{kind<<5 | 24, byte(n)})
	case n < 65536:
		return string([]byte{kind<<5 | 25, byte(n >> 8), byte(n)})
	}
	return string([]byte{kind<<5 | 26, byte(n >> 24), byte(n >> 16), byte(n >> 8), byte(n)})
}

func bytes(s string) string        { return head(2, len(s)) + s }
func text(s string) string         { return head(3, len(s)) + s }
func array(l ...string) string     { return head(4, len(l)) + strings.Join(l, "") }
func pairs(l ...string) string     { return head(5, len(l)/2) + strings.Join(l, "") }
func encrypt(l ...string) string   { return "\xd0" + array(l...) }
func mac(l ...string) string       { return "\xd1" + array(l...) }
func num(n int) string             { return head(0, n) }
func protected(l ...string) string { return bytes(pairs(l...)) }

const (
	iv12 = "iviviviviviv"
	iv13 = "iviviviviviv1"
	tag  = "tagtagtagtagtagg"
)

// The chapter's examples.
func TestExamples(t *testing.T) {
	for s, want := range map[string]api.Errno{"f6": api.ErrForm, "c1f6": api.ErrKind, "d083404000": api.ErrForm, "": api.ErrForm} {
		if got, e := cose.Read(bin(s), most); e != want || !same(got, api.Envelope{}) {
			t.Error(s, got, e)
		}
	}
	if a, b, e := cose.Heads(1, "", ""); a != bin("a10101") || b != bin("a0") || e != api.OK {
		t.Errorf("%x, %x, %v", a, b, e)
	}
	if got := cose.Structure(api.Envelope{Format: api.Encrypt0}, ""); got != "\x83\x68Encrypt0\x40\x40" {
		t.Errorf("%x", got)
	}
	// The second and the sixth example of the whole.
	got, e := cose.Read(bin("d08343a10101a204416b054c3031323334353637383961625303206ef55e3a79a33ab92c0b0b4d120eaab80f"), most)
	want := api.Envelope{Format: 5, Alg: 1, To: []api.Recipient{{Way: 1, Name: "k"}}, Header: bin("a10101"), Loose: bin("a204416b054c303132333435363738396162"), IV: "0123456789ab", Cipher: bin("03206e"), Tag: bin("f55e3a79a33ab92c0b0b4d120eaab80f")}
	if !same(got, want) || e != api.OK {
		t.Error(got, e)
	}
	got, e = cose.Read(bin("d18444a1011819a104416b416150885df4642cf39cf13a896cfce056d92a"), most)
	want = api.Envelope{Format: 6, Alg: 125, To: []api.Recipient{{Way: 1, Name: "k"}}, Header: bin("a1011819"), Loose: bin("a104416b"), Cipher: "a", Tag: bin("885df4642cf39cf13a896cfce056d92a")}
	if !same(got, want) || e != api.OK {
		t.Error(got, e)
	}
}

// P25.1, P25.2: all ciphers and tags alone.
func TestAll(t *testing.T) {
	known := map[int][3]int{1: {5, 12, 16}, 2: {5, 12, 16}, 3: {5, 12, 16}, 10: {5, 13, 8}, 11: {5, 13, 8}, 12: {5, 7, 8}, 13: {5, 7, 8}, 30: {5, 13, 16}, 31: {5, 13, 16}, 32: {5, 7, 16}, 33: {5, 7, 16},
		104: {6, 0, 8}, 105: {6, 0, 32}, 106: {6, 0, 48}, 107: {6, 0, 64}, 114: {6, 0, 8}, 115: {6, 0, 8}, 125: {6, 0, 16}, 126: {6, 0, 16}}
	for alg := -5; alg < 400; alg++ {
		c, ok := known[alg]
		if !ok {
			if a, b, e := cose.Heads(alg, long(200), long(200)); a+b != "" || e != api.ErrKind {
				t.Error(alg, a, b, e)
			}
			continue
		}
		for _, name := range []string{"", "k", "\xff", long(128)} {
			iv := long(c[1])
			n := alg
			if c[0] == 6 {
				n -= 100
			}
			a, b, e := cose.Heads(alg, name, iv)
			var l []string
			if name != "" {
				l = append(l, num(4), bytes(name))
			}
			if iv != "" {
				l = append(l, num(5), bytes(iv))
			}
			if a != pairs(num(1), num(n)) || b != pairs(l...) || e != api.OK {
				t.Errorf("%d %q: %x, %x, %v", alg, name, a, b, e)
			}
			want := api.Envelope{Format: c[0], Alg: alg, To: []api.Recipient{{Way: 1, Name: name}}, Header: a, Loose: b, IV: iv, Cipher: "sealed", Tag: long(c[2])}
			s := encrypt(bytes(a), b, bytes("sealed"+want.Tag))
			if c[0] == 6 {
				s = mac(bytes(a), b, bytes("sealed"), bytes(want.Tag))
			}
			got, e := cose.Read(s, most)
			if !same(got, want) || e != api.OK {
				t.Errorf("%d %q: %v, %v", alg, name, got, e)
			}
			if back, e := cose.Tell(want); back != s || e != api.OK {
				t.Errorf("%d %q: %x, %v", alg, name, back, e)
			}
		}
	}
	for _, c := range []struct {
		name, iv int
		e        api.Errno
	}{{128, 16, api.OK}, {129, 0, api.ErrArg}, {0, 17, api.ErrArg}, {1 << 17, 1 << 17, api.ErrArg}, {0, 0, api.OK}} {
		if a, b, e := cose.Heads(1, long(c.name), long(c.iv)); e != c.e || (e == api.OK) != (a != "") || (e == api.OK) != (b != "") {
			t.Error(c, a, b, e)
		}
	}
}

// P25.1: headers of other shapes.
func TestPlaces(t *testing.T) {
	want := api.Envelope{Format: 5, Alg: 1, To: []api.Recipient{{Way: 1}}, IV: iv12, Tag: tag}
	for i, c := range []struct {
		protected, loose, third string
		change                  func(e *api.Envelope)
	}{
		{"", pairs(num(1), num(1), num(5), bytes(iv12)), tag, func(e *api.Envelope) {}},
		{pairs(num(1), num(1), num(5), bytes(iv12)), pairs(), tag, func(e *api.Envelope) {}},
		{pairs(num(1), num(1), num(4), bytes("k"), num(5), bytes(iv12), text("x"), array(num(1), pairs(num(9), num(9)))), pairs(num(9), "\xc1\x80", "\x20", "\xf6"), "s" + tag, func(e *api.Envelope) { e.To[0].Name, e.Cipher = "k", "s" }},
		{pairs(num(5), bytes(iv12)), pairs(num(1), num(1), "\x21", num(2), text("\x01"), num(0)), tag, func(e *api.Envelope) {}},
		{pairs(num(1), num(10)), pairs(num(5), bytes(iv13)), long(65535) + tag[:8], func(e *api.Envelope) { e.Alg, e.IV, e.Cipher, e.Tag = 10, iv13, long(65535), tag[:8] }},
		{pairs(num(1), num(1)), pairs(num(5), bytes(iv12)), long(70000) + tag, func(e *api.Envelope) { e.Cipher = long(70000) }},
	} {
		e := want
		e.To = []api.Recipient{{Way: 1}}
		e.Header, e.Loose = c.protected, c.loose
		c.change(&e)
		s := encrypt(bytes(c.protected), c.loose, bytes(c.third))
		got, no := cose.Read(s, most)
		if !same(got, e) || no != api.OK {
			t.Errorf("%d: %.200v, %v", i, got, no)
		}
		if back, no := cose.Tell(e); back != s || no != api.OK {
			t.Errorf("%d: %.200x, %v", i, back, no)
		}
	}
	// Of Mac0 an iv is a label like others.
	e := api.Envelope{Format: 6, Alg: 105, To: []api.Recipient{{Way: 1}}, Header: pairs(num(1), num(5)), Loose: pairs(num(5), num(7)), Cipher: long(70000), Tag: long(32)}
	s := mac(bytes(e.Header), e.Loose, bytes(e.Cipher), bytes(e.Tag))
	if got, no := cose.Read(s, most); !same(got, e) || no != api.OK {
		t.Errorf("%.200v, %v", got, no)
	}
	if back, no := cose.Tell(e); back != s || no != api.OK {
		t.Errorf("%.200x, %v", back, no)
	}
}

// P25.1: what isn't as told.
func TestFaults(t *testing.T) {
	prot, loose, third := protected(num(1), num(1)), pairs(num(5), bytes(iv12)), bytes("s"+tag)
	macProt, macTag := protected(num(1), num(5)), bytes(long(32))
	null, undefined := "\xf6", "\xf7"
	for _, c := range []struct {
		s string
		e api.Errno
	}{
		{encrypt(prot, loose, third), api.OK}, {mac(macProt, pairs(), bytes(""), macTag), api.OK}, {encrypt(prot, loose, third) + "\x00", api.ErrForm}, {encrypt(prot, loose, third)[:20], api.ErrForm}, {"\x1c", api.ErrForm}, {"\xfa", api.ErrKind},
		// the tag, the array
		{array(prot, loose, third), api.ErrForm}, {num(16), api.ErrForm}, {"\xcf" + array(prot, loose, third), api.ErrKind}, {"\xd2" + array(prot, loose, third), api.ErrKind}, {"\xd8\x60" + array(prot, loose, third), api.ErrKind}, {"\xc1\xd0" + array(prot, loose, third), api.ErrKind}, {"\xd0\xd0" + array(prot, loose, third), api.ErrForm}, {"\xd0" + pairs(num(1), num(1)), api.ErrForm}, {"\xd0\x83"[:1] + num(3), api.ErrForm},
		{encrypt(), api.ErrForm}, {encrypt(prot, loose), api.ErrForm}, {encrypt(prot, loose, null, null), api.ErrForm}, {encrypt(prot, loose, third, third), api.ErrForm}, {mac(macProt, pairs(), null), api.ErrForm}, {mac(macProt, pairs(), bytes(""), macTag, macTag), api.ErrForm},
		// the protected header
		{encrypt(pairs(num(1), num(1)), num(1), null), api.ErrForm}, {encrypt(text(""), loose, third), api.ErrForm}, {encrypt(null, loose, third), api.ErrForm}, {encrypt(bytes("\x1c"), num(1), null), api.ErrForm}, {encrypt(bytes("\xf0"), num(1), null), api.ErrKind}, {encrypt(bytes("\x18\x05"), loose, third), api.ErrForm}, {encrypt(bytes(pairs()), loose, third), api.ErrForm}, {encrypt(bytes(array(num(1))), loose, null), api.ErrForm}, {encrypt(bytes("\xa1\x01\x01\x00"), loose, third), api.ErrForm}, {encrypt(bytes("\xa1\x01"), loose, third), api.ErrForm}, {encrypt(bytes(strings.Repeat("\x81", 33)+"\x00"), num(1), null), api.ErrLimit}, {encrypt(bytes(pairs(num(1), num(1), num(1), num(1))), loose, third), api.ErrForm},
		// the loose header
		{encrypt(prot, bytes(loose), third), api.ErrForm}, {encrypt(prot, array(), null), api.ErrForm}, {encrypt(prot, null, null), api.ErrForm}, {encrypt(prot, num(5), null), api.ErrForm},
		// the third, the fourth
		{encrypt(prot, loose, null), api.ErrKind}, {encrypt(prot, loose, undefined), api.ErrForm}, {encrypt(prot, loose, text("s"+tag)), api.ErrForm}, {encrypt(prot, loose, array()), api.ErrForm}, {mac(macProt, pairs(), null, macTag), api.ErrKind}, {mac(macProt, pairs(), null, null), api.ErrKind}, {mac(macProt, pairs(), bytes(""), null), api.ErrForm}, {mac(macProt, pairs(), bytes(""), text(long(32))), api.ErrForm}, {mac(macProt, pairs(), num(1), null), api.ErrForm}, {mac(macProt, pairs(), bytes(""), num(22)), api.ErrForm},
		// labels
		{encrypt(protected(num(1), num(1), bytes("x"), num(1)), loose, third), api.ErrForm}, {encrypt(protected(num(1), num(1), array(), num(1)), loose, third), api.ErrForm}, {encrypt(protected(num(1), num(1), "\xf5", num(1)), loose, third), api.ErrForm}, {encrypt(prot, pairs(num(5), bytes(iv12), bytes("x"), num(1)), third), api.ErrForm}, {encrypt(prot, pairs(num(2), num(1), "\xc1\x01", num(1)), third), api.ErrForm}, {encrypt(protected(num(1), num(1), num(2), num(1)), pairs(num(5), bytes(iv12), "\xf6", num(1)), third), api.ErrForm},
		{encrypt(prot, pairs(num(1), num(1), num(5), bytes(iv12)), third), api.ErrForm}, {encrypt(protected(num(1), num(1), text("x"), num(1)), pairs(num(5), bytes(iv12), text("x"), num(1)), third), api.ErrForm}, {encrypt(protected(num(1), num(1), "\x20", num(1)), pairs(num(5), bytes(iv12), "\x20", num(1)), third), api.ErrForm}, {encrypt(protected(num(0), num(1), num(1), num(1)), pairs(num(5), bytes(iv12), "\x20", num(1)), third), api.OK}, {encrypt(protected(num(1), num(1), num(2), num(1)), pairs(num(2), bytes(iv12)), third), api.ErrForm},
		{encrypt(protected(num(1), num(1), num(2), array(num(1))), loose, third), api.ErrKind}, {encrypt(prot, pairs(num(2), num(1), num(5), bytes(iv12)), third), api.ErrKind}, {encrypt(prot, pairs(num(5), bytes(iv12), num(6), bytes("x")), third), api.ErrKind}, {encrypt(protected(num(6), num(1)), loose, third), api.ErrKind}, {encrypt(protected(num(1), num(1), "\x21", num(2)), loose, third), api.OK}, {encrypt(protected(num(1), num(1), text("\x02"), num(2)), loose, third), api.OK},
		// alg
		{encrypt(bytes(""), loose, third), api.ErrForm}, {encrypt(protected(num(4), num(1)), loose, third), api.ErrForm}, {encrypt(protected("\x20", num(1)), loose, third), api.ErrForm}, {encrypt(protected(num(1), "\x20"), loose, third), api.ErrKind}, {encrypt(protected(num(1), "\x21"), loose, third), api.ErrKind}, {encrypt(protected(num(1), array(num(9))), loose, third), api.ErrKind}, {encrypt(protected(num(1), "\xc1\x01"), loose, third), api.ErrKind}, {encrypt(protected(num(1), pairs(num(9), num(9))), loose, third), api.ErrKind}, {mac(protected(num(1), "\x24"), pairs(), bytes(""), macTag), api.ErrKind}, {encrypt(protected(num(1), text("x")), loose, third), api.ErrKind}, {encrypt(protected(num(1), bytes("\x01")), loose, third), api.ErrKind}, {encrypt(protected(num(1), num(0)), loose, third), api.ErrKind}, {encrypt(protected(num(1), num(4)), loose, third), api.ErrKind}, {encrypt(protected(num(1), num(6)), loose, third), api.ErrKind}, {encrypt(protected(num(1), num(24)), loose, third), api.ErrKind}, {encrypt(protected(num(1), num(105)), loose, third), api.ErrKind}, {encrypt(protected(num(1), "\x1b\xff\xff\xff\xff\xff\xff\xff\xff"), loose, third), api.ErrKind}, {encrypt(protected(num(1), "\x1b\x80\x00\x00\x00\x00\x00\x00\x01"), loose, third), api.ErrKind},
		{mac(protected(num(1), num(1)), pairs(), bytes(""), macTag), api.ErrKind}, {mac(protected(num(1), num(105)), pairs(), bytes(""), macTag), api.ErrKind}, {mac(protected(num(1), "\x38\x63"), pairs(), bytes(""), macTag), api.ErrKind}, {mac(protected(num(1), "\x1b\xff\xff\xff\xff\xff\xff\xff\xa1"), pairs(), bytes(""), macTag), api.ErrKind}, {mac(protected(num(1), num(30)), pairs(), bytes(""), macTag), api.ErrKind},
		// the name
		{encrypt(prot, pairs(num(4), text("k"), num(5), num(1)), third), api.ErrForm}, {encrypt(prot, pairs(num(4), bytes(""), num(5), bytes(iv12)), third), api.ErrForm}, {encrypt(prot, pairs(num(4), bytes(long(129)), num(5), bytes(iv12)), third), api.ErrForm}, {encrypt(prot, pairs(num(4), array(), num(5), bytes(iv12)), third), api.ErrForm}, {encrypt(protected(num(1), num(4), num(4), num(1)), loose, third), api.ErrKind}, {mac(macProt, pairs(num(4), num(1)), bytes(""), macTag), api.ErrForm},
		// the iv, the lengths
		{encrypt(prot, pairs(), third), api.ErrForm}, {encrypt(prot, pairs(num(5), text(iv12)), third), api.ErrForm}, {encrypt(prot, pairs(num(5), bytes(iv12[1:])), third), api.ErrForm}, {encrypt(prot, pairs(num(5), bytes(iv13)), third), api.ErrForm}, {encrypt(prot, pairs(num(5), array()), bytes(long(80000))), api.ErrForm}, {encrypt(prot, loose, bytes(tag[1:])), api.ErrForm}, {encrypt(prot, loose, bytes("")), api.ErrForm}, {encrypt(prot, loose, bytes(tag)), api.OK}, {encrypt(prot, loose, bytes(long(70016))), api.OK}, {encrypt(prot, loose, bytes(long(70017))), api.ErrLimit},
		{encrypt(protected(num(1), num(10)), pairs(num(5), bytes(iv13)), bytes(long(65543))), api.OK}, {encrypt(protected(num(1), num(10)), pairs(num(5), bytes(iv13)), bytes(long(65544))), api.ErrLimit}, {encrypt(protected(num(1), num(30)), pairs(num(5), bytes(iv13)), bytes(long(65551))), api.OK}, {encrypt(protected(num(1), num(30)), pairs(num(5), bytes(iv13)), bytes(long(65552))), api.ErrLimit}, {encrypt(protected(num(1), num(12)), pairs(num(5), bytes(iv13[:7])), bytes(long(70008))), api.OK}, {encrypt(protected(num(1), num(12)), pairs(num(5), bytes(iv13[:7])), bytes(long(70009))), api.ErrLimit},
		{mac(macProt, pairs(), bytes(""), bytes(long(31))), api.ErrForm}, {mac(macProt, pairs(), bytes(""), bytes(long(33))), api.ErrForm}, {mac(macProt, pairs(), bytes(long(70001)), bytes("")), api.ErrForm}, {mac(macProt, pairs(), bytes(long(70001)), macTag), api.ErrLimit}, {mac(macProt, pairs(), bytes(long(70000)), macTag), api.OK},
	} {
		got, e := cose.Read(c.s, most)
		if e != c.e || e != api.OK && !same(got, api.Envelope{}) {
			t.Errorf("%.100x: %v, not %v", c.s, e, c.e)
		}
		if e != api.OK {
			continue
		}
		if back, e := cose.Tell(got); e != api.OK || back != c.s {
			t.Errorf("%.100x: %v, %.100x", c.s, e, back)
		}
	}
}

// P25.1: limits, of the item and of the protected header by itself.
func TestLimits(t *testing.T) {
	s := encrypt(protected(num(1), num(1), num(9), array(array(array()))), pairs(num(5), bytes(iv12)), bytes(tag))
	for _, c := range []struct {
		lim api.Limits
		e   api.Errno
	}{
		{api.Limits{Depth: 4, Items: 7, Bytes: len(s), Rounds: 1}, api.OK}, {api.Limits{Depth: 3, Items: 7, Bytes: len(s), Rounds: 1}, api.ErrLimit}, {api.Limits{Depth: 4, Items: 6, Bytes: len(s), Rounds: 1}, api.ErrLimit}, {api.Limits{Depth: 4, Items: 7, Bytes: len(s) - 1, Rounds: 1}, api.ErrLimit}, {api.Limits{}, api.ErrArg}, {api.Limits{Depth: 4, Items: 7, Bytes: len(s)}, api.ErrArg},
	} {
		if got, e := cose.Read(s, c.lim); e != c.e {
			t.Error(c.lim, got, e)
		}
	}
}

// P25.1: what can't be told.
func TestTellFaults(t *testing.T) {
	enc := api.Envelope{Format: 5, Alg: 1, To: []api.Recipient{{Way: 1, Name: "k"}}, Header: pairs(num(1), num(1)), Loose: pairs(num(4), bytes("k"), num(5), bytes(iv12)), IV: iv12, Cipher: "s", Tag: tag}
	mac := api.Envelope{Format: 6, Alg: 105, To: []api.Recipient{{Way: 1, Name: "k"}}, Header: pairs(num(1), num(5)), Loose: pairs(num(4), bytes("k")), Cipher: "s", Tag: long(32)}
	one := func(change func(to *api.Recipient)) func(e *api.Envelope) {
		return func(e *api.Envelope) {
			to := e.To[0]
			change(&to)
			e.To = []api.Recipient{to}
		}
	}
	for i, base := range []api.Envelope{enc, mac} {
		if _, e := cose.Tell(base); e != api.OK {
			t.Fatal(i, e)
		}
		for j, change := range []func(e *api.Envelope){
			func(e *api.Envelope) { *e = api.Envelope{} }, func(e *api.Envelope) { e.Format = 11 - e.Format }, func(e *api.Envelope) { e.Format = 0 }, func(e *api.Envelope) { e.Format = 4 }, func(e *api.Envelope) { e.Alg = 2 }, func(e *api.Envelope) { e.Alg = 5 }, func(e *api.Envelope) { e.To = nil }, func(e *api.Envelope) { e.To = []api.Recipient{e.To[0], e.To[0]} }, func(e *api.Envelope) { e.Header = "" }, func(e *api.Envelope) { e.Header = "x" }, func(e *api.Envelope) { e.Header = "\xa0" }, func(e *api.Envelope) { e.Header = "\xa1\x18\x01\x01" },
			func(e *api.Envelope) { e.Loose = "" }, func(e *api.Envelope) { e.Loose = "\xa0" }, func(e *api.Envelope) { e.Loose = "\x80" }, func(e *api.Envelope) { e.Loose += "\x00" }, func(e *api.Envelope) { e.Loose = "\xa1" }, func(e *api.Envelope) { e.Loose = pairs(num(9), strings.Repeat("\x81", 31)+"\x00") }, func(e *api.Envelope) { e.Aad = "x" }, func(e *api.Envelope) { e.IV += "x" }, func(e *api.Envelope) { e.Cipher = long(70001) }, func(e *api.Envelope) { e.Cipher = long(300000) }, func(e *api.Envelope) { e.Tag = e.Tag[1:] }, func(e *api.Envelope) { e.Tag += "x" },
			one(func(to *api.Recipient) { to.Way = 0 }), one(func(to *api.Recipient) { to.Way = 2 }), one(func(to *api.Recipient) { to.Name = "" }), one(func(to *api.Recipient) { to.Name = "l" }), one(func(to *api.Recipient) { to.Size = 16 }), one(func(to *api.Recipient) { to.Kind = 256 }), one(func(to *api.Recipient) { to.Key = "x" }), one(func(to *api.Recipient) { to.Salt = "x" }), one(func(to *api.Recipient) { to.Rounds = 1 }), one(func(to *api.Recipient) { to.IV = "x" }), one(func(to *api.Recipient) { to.Loose = "x" }),
		} {
			e := base
			change(&e)
			if s, no := cose.Tell(e); s != "" || no != api.ErrArg {
				t.Errorf("%d %d: %.100x, %v", i, j, s, no)
			}
		}
	}
}

// P25.3
func TestStructure(t *testing.T) {
	for _, h := range []string{"", "h", long(24)} {
		for _, aad := range []string{"", "a", long(255), long(256), long(70000), long(300000)} {
			for _, sealed := range []string{"", "c", long(65536)} {
				e := api.Envelope{Format: api.Encrypt0, Header: h, Cipher: sealed, Aad: "no", Loose: "no"}
				if got := cose.Structure(e, aad); got != array(text("Encrypt0"), bytes(h), bytes(aad)) {
					t.Errorf("%.100x", got)
				}
				for _, format := range []int{api.Mac0, 0, 1, 4, 7, -1} {
					e.Format = format
					if got := cose.Structure(e, aad); got != array(text("MAC0"), bytes(h), bytes(aad), bytes(sealed)) {
						t.Errorf("%.100x", got)
					}
				}
			}
		}
	}
}

// P25.4: whatever is read is told by the bytes that it was.
func TestChanged(t *testing.T) {
	r := rand.New(rand.NewSource(1))
	texts := []string{
		encrypt(protected(num(1), num(1), text("x"), array(num(1))), pairs(num(4), bytes("k"), num(5), bytes(iv12)), bytes("s"+tag)),
		encrypt(bytes(""), pairs(num(1), num(12), num(5), bytes(iv13[:7]), "\x20", "\xf6"), bytes("s"+tag)),
		mac(protected(num(1), num(4)), pairs(num(4), bytes("k")), bytes("text"), bytes(tag[:8])),
	}
	found := map[api.Errno]int{}
	for range 60000 {
		b := []byte(texts[r.Intn(3)])
		for range r.Intn(3) {
			i := r.Intn(len(b))
			switch r.Intn(4) {
			case 0:
				b[i] = byte(r.Intn(256))
			case 1:
				b[i] += byte(r.Intn(3)) - 1
			case 2:
				b = append(b[:i], b[i+1:]...)
			case 3:
				b = append(b[:i], append([]byte{[]byte{0, 1, 0x41, 0xa0, 0xf6, 0x80}[r.Intn(6)]}, b[i:]...)...)
			}
		}
		got, e := cose.Read(string(b), most)
		found[e]++
		if e != api.OK {
			if !same(got, api.Envelope{}) || e != api.ErrForm && e != api.ErrKind && e != api.ErrLimit {
				t.Fatalf("%x: %v, %v", b, got, e)
			}
			continue
		}
		if told, e := cose.Tell(got); e != api.OK || told != string(b) {
			t.Fatalf("%x: %x, %v", b, told, e)
		}
		if _, _, e := cbor.Decode(string(b), most); e != api.OK {
			t.Fatal(e)
		}
	}
	if found[api.OK] < 5000 || found[api.ErrForm] < 5000 || found[api.ErrKind] < 500 {
		t.Error(found)
	}
}
