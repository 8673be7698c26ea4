package cms_test

import (
	"crypto/sha256"
	"encoding/hex"
	"math/rand"
	"reflect"
	"sort"
	"strings"
	"testing"

	"pyxis/api"
	"pyxis/cms"
	"pyxis/der"
)

var most = api.Limits{Depth: 32, Items: 4096, Bytes: 262144, Rounds: 4096}

func bin(s string) string {
	b, err := hex.DecodeString(strings.ReplaceAll(s, " ", ""))
	if err != nil {
		panic(err)
	}
	return string(b)
}

// tree is an element, told in tests as it is in the chapter.
type tree []api.Node

func is(tag byte, body string) tree { return tree{{Tag: tag, Kids: -1, Body: body}} }

func in(tag byte, kids ...tree) tree {
	out := tree{{Tag: tag, Kids: len(kids)}}
	for _, k := range kids {
		out = append(out, k...)
	}
	return out
}

func kind(s string) tree { return is(6, bin(s)) }

const aesFamily = "60864801650304 01"

var (
	sealed     = kind("2A864886F70D010910 0117")
	data       = kind("2A864886F70D010701")
	derivation = kind("2A864886F70D01050C")
	locking    = kind("2A864886F70D010910 0309")
	beside     = kind("2A864886F70D010904")
)

func aes(last string) tree    { return kind(aesFamily + last) }
func digest(last string) tree { return kind("2A864886F70D02" + last) }

// parts are what a message is built of; what is nil is left out.
type parts struct {
	outer              tree // in the place of all
	sealed, version    tree
	info               tree // behind the version
	to                 []tree
	recipients         tree // in the place of 31 and to
	content, attribute tree
	tag                tree
	behind             []tree // behind the tag
}

func wrapped(name, last string, key int) tree {
	return in(0xa2, is(2, "\x04"), in(0x30, is(4, name)), in(0x30, aes(last)), is(4, strings.Repeat("k", key)))
}

func password(salt int, rounds, hash, last string, key int) tree {
	return in(0xa3, is(2, "\x00"), in(0xa0, derivation, in(0x30, is(4, strings.Repeat("s", salt)), is(2, rounds), in(0x30, digest(hash), is(5, "")))), in(0x30, locking, in(0x30, aes(last), is(4, "iviviviviviviviv"))), is(4, strings.Repeat("k", key)))
}

func content(last string, iv int, size string, text string) tree {
	params := in(0x30, is(4, strings.Repeat("i", iv)))
	if size != "" {
		params = in(0x30, is(4, strings.Repeat("i", iv)), is(2, size))
	}
	return in(0x30, data, in(0x30, aes(last), params), is(0x80, text))
}

func usual() parts {
	return parts{sealed: sealed, version: is(2, "\x00"), to: []tree{wrapped("k", "05", 24)}, content: content("06", 12, "", "text"), tag: is(4, "tagtagtagtag")}
}

func (p parts) bytes(t *testing.T) string {
	t.Helper()
	recipients := in(0x31, p.to...)
	if p.recipients != nil {
		recipients = p.recipients
	}
	var inner []tree
	for _, x := range append([]tree{p.version, p.info, recipients, p.content, p.attribute, p.tag}, p.behind...) {
		if x != nil {
			inner = append(inner, x)
		}
	}
	all := in(0x30, p.sealed, in(0xa0, in(0x30, inner...)))
	if p.outer != nil {
		all = p.outer
	}
	s, e := der.Encode(all)
	if e != api.OK {
		t.Fatal(e, all)
	}
	return s
}

func same(a, b api.Envelope) bool {
	if len(a.To) == 0 && len(b.To) == 0 {
		a.To, b.To = nil, nil
	}
	return reflect.DeepEqual(a, b)
}

var toWrapped = api.Recipient{Way: api.Wrapped, Size: 16, Name: "k", Key: strings.Repeat("k", 24)}

// P23.1: what is read, and told so.
func TestRead(t *testing.T) {
	base := api.Envelope{Format: api.CMS, Alg: 1, To: []api.Recipient{toWrapped}, IV: strings.Repeat("i", 12), Cipher: "text", Tag: "tagtagtagtag"}
	header := func(l ...tree) string {
		s, e := der.Encode(in(0x31, l...))
		if e != api.OK {
			t.Fatal(e)
		}
		return s
	}
	attribute := in(0x30, beside, in(0x31, is(4, "x")))
	for i, c := range []struct {
		change func(p *parts)
		want   func(e *api.Envelope)
	}{
		{func(p *parts) {}, func(e *api.Envelope) {}},
		{func(p *parts) { p.to = []tree{wrapped(strings.Repeat("n", 128), "19", 1032)} }, func(e *api.Envelope) {
			e.To = []api.Recipient{{Way: 2, Size: 24, Name: strings.Repeat("n", 128), Key: strings.Repeat("k", 1032)}}
		}},
		{func(p *parts) { p.to = []tree{wrapped("\xff\x00", "2d", 32)} }, func(e *api.Envelope) {
			e.To = []api.Recipient{{Way: 2, Size: 32, Name: "\xff\x00", Key: strings.Repeat("k", 32)}}
		}},
		{func(p *parts) { p.to = []tree{password(8, "\x01", "09", "02", 32)} }, func(e *api.Envelope) {
			e.To = []api.Recipient{{Way: 3, Size: 16, Kind: 256, Salt: "ssssssss", Rounds: 1, IV: "iviviviviviviviv", Key: strings.Repeat("k", 32)}}
		}},
		{func(p *parts) { p.to = []tree{password(1000, "\x10\x00", "0a", "16", 272)} }, func(e *api.Envelope) {
			e.To = []api.Recipient{{Way: 3, Size: 24, Kind: 384, Salt: strings.Repeat("s", 1000), Rounds: 4096, IV: "iviviviviviviviv", Key: strings.Repeat("k", 272)}}
		}},
		{func(p *parts) { p.to = []tree{password(9, "\x00\x80", "0b", "2a", 48)} }, func(e *api.Envelope) {
			e.To = []api.Recipient{{Way: 3, Size: 32, Kind: 512, Salt: "sssssssss", Rounds: 128, IV: "iviviviviviviviv", Key: strings.Repeat("k", 48)}}
		}},
		{func(p *parts) {
			p.to = []tree{wrapped("k", "05", 24), wrapped("k", "05", 24), wrapped("l", "05", 24), password(8, "\x01", "09", "02", 32)}
		}, func(e *api.Envelope) {
			l := toWrapped
			l.Name = "l"
			e.To = []api.Recipient{toWrapped, toWrapped, l, {Way: 3, Size: 16, Kind: 256, Salt: "ssssssss", Rounds: 1, IV: "iviviviviviviviv", Key: strings.Repeat("k", 32)}}
		}},
		{func(p *parts) { p.to = []tree{p.to[0], p.to[0], p.to[0], p.to[0], p.to[0], p.to[0], p.to[0], p.to[0]} }, func(e *api.Envelope) {
			e.To = []api.Recipient{toWrapped, toWrapped, toWrapped, toWrapped, toWrapped, toWrapped, toWrapped, toWrapped}
		}},
		{func(p *parts) { p.content, p.tag = content("1a", 1, "\x10", ""), is(4, "tagtagtagtagtagg") }, func(e *api.Envelope) { e.Alg, e.IV, e.Cipher, e.Tag = 2, "i", "", "tagtagtagtagtagg" }},
		{func(p *parts) { p.content, p.tag = content("2e", 1024, "\x0d", "t"), is(4, "tagtagtagtagt") }, func(e *api.Envelope) {
			e.Alg, e.IV, e.Cipher, e.Tag = 3, strings.Repeat("i", 1024), "t", "tagtagtagtagt"
		}},
		{func(p *parts) { p.content = content("07", 7, "", "t") }, func(e *api.Envelope) { e.Alg, e.IV, e.Cipher = 201, "iiiiiii", "t" }},
		{func(p *parts) { p.content, p.tag = content("1b", 13, "\x04", "t"), is(4, "tagg") }, func(e *api.Envelope) { e.Alg, e.IV, e.Cipher, e.Tag = 202, "iiiiiiiiiiiii", "t", "tagg" }},
		{func(p *parts) { p.content, p.tag = content("2f", 12, "\x10", "t"), is(4, "tagtagtagtagtagg") }, func(e *api.Envelope) { e.Alg, e.Cipher, e.Tag = 203, "t", "tagtagtagtagtagg" }},
		{func(p *parts) { p.content = content("07", 13, "", strings.Repeat("t", 65535)) }, func(e *api.Envelope) { e.Alg, e.IV, e.Cipher = 201, "iiiiiiiiiiiii", strings.Repeat("t", 65535) }},
		{func(p *parts) { p.content = content("07", 12, "", strings.Repeat("t", 70000)) }, func(e *api.Envelope) { e.Alg, e.Cipher = 201, strings.Repeat("t", 70000) }},
		{func(p *parts) { p.content = content("06", 13, "", strings.Repeat("t", 70000)) }, func(e *api.Envelope) { e.IV, e.Cipher = "iiiiiiiiiiiii", strings.Repeat("t", 70000) }},
		{func(p *parts) { p.attribute = in(0xa1, attribute) }, func(e *api.Envelope) { e.Header = header(attribute) }},
		{func(p *parts) {
			p.attribute = in(0xa1, attribute, in(0x30, data, in(0x31, in(0x30, in(0xa5, is(5, ""))), in(0xbe))))
		}, func(e *api.Envelope) {
			e.Header = header(attribute, in(0x30, data, in(0x31, in(0x30, in(0xa5, is(5, ""))), in(0xbe))))
		}},
		{func(p *parts) { p.attribute = in(0xa1, in(0x30, data, in(0x31, is(4, strings.Repeat("a", 69969))))) }, func(e *api.Envelope) { e.Header = header(in(0x30, data, in(0x31, is(4, strings.Repeat("a", 69969))))) }},
	} {
		p, want := usual(), base
		c.change(&p)
		c.want(&want)
		s := p.bytes(t)
		got, e := cms.Read(s, most)
		if e != api.OK || !same(got, want) {
			t.Errorf("%d: %v, %.300v", i, e, got)
			continue
		}
		if back, e := cms.Tell(want); e != api.OK || back != s {
			t.Errorf("%d: %v, %.300x", i, e, back)
		}
	}
}

// The tenth example of the whole.
func TestExample(t *testing.T) {
	s := bin("3081d2060b2a864886f70d0109100117a081c23081bf020100317fa37d020100a02806092a864886f70d01050c301b040873616c7473616c74020101300c06082a864886f70d02090500302c060b2a864886f70d0109100309301d060960864801650304010204103031323334353637383961626364656604203c3ff2d753749301b8e63ffc37ce26d6db6f1ab0c097aaf68a627b3800489a79302b06092a864886f70d010701301b0609608648016503040106300e040c303132333435363738396162800103040c9209b79e4464d74db82d2f87")
	got, e := cms.Read(s, most)
	want := api.Envelope{Format: 1, Alg: 1, IV: "0123456789ab", Cipher: "\x03", Tag: bin("9209b79e4464d74db82d2f87"), To: []api.Recipient{{Way: 3, Size: 16, Kind: 256, Salt: "saltsalt", Rounds: 1, IV: "0123456789abcdef", Key: bin("3c3ff2d753749301b8e63ffc37ce26d6db6f1ab0c097aaf68a627b3800489a79")}}}
	if e != api.OK || !same(got, want) {
		t.Error(got, e)
	}
	if back, e := cms.Tell(want); e != api.OK || back != s {
		t.Errorf("%x, %v", back, e)
	}
	for s, e := range map[string]api.Errno{"": api.ErrForm, "\x30\x00": api.ErrForm} {
		if got, no := cms.Read(s, most); no != e || !same(got, api.Envelope{}) {
			t.Error(got, no)
		}
	}
	if cms.Attributes("") != "" {
		t.Error("Attributes of nothing")
	}
}

// swap is a tree with one element of its list another tree; it keeps nothing that the first one held.
func swap(l tree, at int, by tree) tree {
	end := at + 1
	for wanted := max(l[at].Kids, 0); wanted > 0; end++ {
		wanted += max(l[end].Kids, 0) - 1
	}
	return append(append(append(tree{}, l[:at]...), by...), l[end:]...)
}

// more is an element with one element more, ahead of those that it has (0) or behind a number of list entries.
func more(l tree, at, behind int, by tree) tree {
	out := append(append(append(tree{}, l[:behind]...), by...), l[behind:]...)
	out[at].Kids++
	return out
}

// less is an element that has one element less.
func less(l tree, at, of int) tree {
	out := swap(l, of, nil)
	out[at].Kids--
	return out
}

var null = is(5, "")

// P23.1: what isn't as told.
func TestFaults(t *testing.T) {
	w, p, c := wrapped("k", "05", 24), password(8, "\x01", "09", "02", 32), content("06", 12, "", "text")
	attribute := in(0x30, beside, in(0x31, is(4, "x")))
	long := func(n int) string { return strings.Repeat("t", n) }
	var cases []struct {
		name   string
		change func(p *parts)
		e      api.Errno
	}
	add := func(name string, e api.Errno, change func(p *parts)) {
		cases = append(cases, struct {
			name   string
			change func(p *parts)
			e      api.Errno
		}{name, change, e})
	}
	to := func(name string, e api.Errno, x ...tree) { add("to: "+name, e, func(p *parts) { p.to = x }) }
	cont := func(name string, e api.Errno, x tree) { add("content: "+name, e, func(p *parts) { p.content = x }) }
	attr := func(name string, e api.Errno, x tree) {
		add("attributes: "+name, e, func(p *parts) { p.attribute = x })
	}
	// The whole.
	add("another element", api.ErrForm, func(p *parts) { p.outer = null })
	add("another tag", api.ErrForm, func(p *parts) { p.outer = in(0x31, sealed, in(0xa0, in(0x30))) })
	add("nothing", api.ErrForm, func(p *parts) { p.outer = in(0x30) })
	add("no type", api.ErrForm, func(p *parts) { p.outer = in(0x30, is(4, sealed[0].Body), in(0xa0)) })
	add("another type", api.ErrKind, func(p *parts) { p.sealed = data })
	add("another type, alone", api.ErrKind, func(p *parts) { p.outer = in(0x30, data) })
	add("the type alone", api.ErrForm, func(p *parts) { p.outer = in(0x30, sealed) })
	add("A1 for A0", api.ErrForm, func(p *parts) { p.outer = in(0x30, sealed, in(0xa1, in(0x30))) })
	add("80 for A0", api.ErrForm, func(p *parts) { p.outer = in(0x30, sealed, is(0x80, "")) })
	add("A0 empty", api.ErrForm, func(p *parts) { p.outer = in(0x30, sealed, in(0xa0)) })
	add("31 within A0", api.ErrForm, func(p *parts) { p.outer = in(0x30, sealed, in(0xa0, in(0x31))) })
	add("nothing within 30", api.ErrForm, func(p *parts) { p.outer = in(0x30, sealed, in(0xa0, in(0x30))) })
	// Version.
	add("no version", api.ErrForm, func(p *parts) { p.version = nil })
	add("version 1", api.ErrKind, func(p *parts) { p.version = is(2, "\x01") })
	add("version as bytes", api.ErrForm, func(p *parts) { p.version = is(4, "\x00") })
	add("version 1 ahead of all else", api.ErrKind, func(p *parts) { p.version, p.recipients, p.content = is(2, "\x01"), null, null })
	add("info", api.ErrKind, func(p *parts) { p.info = in(0xa0) })
	add("info of another tag", api.ErrForm, func(p *parts) { p.info = in(0xa1) })
	// Recipients.
	add("30 for 31", api.ErrForm, func(p *parts) { p.recipients = in(0x30, w) })
	add("nine", api.ErrLimit, func(p *parts) { p.to = []tree{w, w, w, w, w, w, w, w, w} })
	add("nine that are none", api.ErrLimit, func(p *parts) { p.recipients = in(0x31, null, null, null, null, null, null, null, null, null) })
	to("none", api.ErrForm)
	to("30", api.ErrKind, in(0x30))
	to("A1", api.ErrKind, in(0xa1))
	to("A4", api.ErrKind, in(0xa4))
	to("A0", api.ErrForm, in(0xa0))
	to("A5", api.ErrForm, in(0xa5))
	to("81", api.ErrForm, is(0x81, ""))
	to("82", api.ErrForm, is(0x82, ""))
	to("31", api.ErrForm, in(0x31))
	to("30 behind a right one", api.ErrKind, in(0x30), w)
	// A2.
	to("A2 empty", api.ErrForm, in(0xa2))
	to("A2 of version 0", api.ErrKind, swap(w, 1, is(2, "\x00")))
	to("A2 of version 4 as bytes", api.ErrForm, swap(w, 1, is(4, "\x04")))
	to("A2 with 31 for the name", api.ErrForm, swap(w, 2, in(0x31, is(4, "k"))))
	to("A2 without a name", api.ErrForm, swap(w, 2, in(0x30)))
	to("A2 with an empty name", api.ErrForm, swap(w, 3, is(4, "")))
	to("A2 with a long name", api.ErrForm, swap(w, 3, is(4, long(129))))
	to("A2 with a name as text", api.ErrForm, swap(w, 3, is(12, "k")))
	to("A2 with more than a name", api.ErrKind, more(w, 2, 4, null))
	to("A2 with more than an empty name", api.ErrForm, swap(w, 2, in(0x30, is(4, ""), null)))
	to("A2 without wrapping", api.ErrForm, swap(w, 4, in(0x30)))
	to("A2 with another wrapping", api.ErrKind, swap(w, 5, aes("06")))
	to("A2 with a longer type", api.ErrKind, swap(w, 5, aes("0505")))
	to("A2 with wrapping and more", api.ErrForm, more(w, 4, 6, null))
	to("A2 without a key", api.ErrForm, less(w, 0, 6))
	to("A2 with a short key", api.ErrForm, swap(w, 6, is(4, long(16))))
	to("A2 with a key of 25", api.ErrForm, swap(w, 6, is(4, long(25))))
	to("A2 with a long key", api.ErrForm, swap(w, 6, is(4, long(1040))))
	to("A2 with an empty key", api.ErrForm, swap(w, 6, is(4, "")))
	to("A2 with more", api.ErrForm, more(w, 0, 7, null))
	// A3.
	to("A3 empty", api.ErrForm, in(0xa3))
	to("A3 of version 4", api.ErrKind, swap(p, 1, is(2, "\x04")))
	to("A3 without a derivation", api.ErrForm, less(p, 0, 2))
	to("A3 with A1 for A0", api.ErrForm, swap(p, 2, in(0xa1)))
	to("A3 with A0 empty", api.ErrForm, swap(p, 2, in(0xa0)))
	to("A3 with another derivation", api.ErrKind, swap(p, 3, locking))
	to("A3 with a derivation alone", api.ErrForm, swap(p, 2, in(0xa0, derivation)))
	to("A3 with a short salt", api.ErrForm, swap(p, 5, is(4, long(7))))
	to("A3 with a long salt", api.ErrForm, swap(p, 5, is(4, long(1001))))
	to("A3 with another salt", api.ErrForm, swap(p, 5, data))
	to("A3 without rounds", api.ErrForm, less(p, 4, 6))
	to("A3 of no rounds", api.ErrForm, swap(p, 6, is(2, "\x00")))
	to("A3 of rounds below 0", api.ErrForm, swap(p, 6, is(2, "\xff")))
	to("A3 of rounds far below 0", api.ErrForm, swap(p, 6, is(2, "\x80"+long(20))))
	to("A3 of 4097 rounds", api.ErrLimit, swap(p, 6, is(2, "\x10\x01")))
	to("A3 of 65536 rounds", api.ErrLimit, swap(p, 6, is(2, "\x01\x00\x00")))
	to("A3 of 2^63 rounds", api.ErrLimit, swap(p, 6, is(2, "\x00\x80\x00\x00\x00\x00\x00\x00\x00")))
	to("A3 of 2^64 rounds", api.ErrLimit, swap(p, 6, is(2, "\x01\x00\x00\x00\x00\x00\x00\x00\x01")))
	to("A3 of 2^128 rounds", api.ErrLimit, swap(p, 6, is(2, "\x01"+strings.Repeat("\x00", 15)+"\x01")))
	to("A3 with a length", api.ErrKind, more(p, 4, 7, is(2, "\x10")))
	to("A3 without a digest", api.ErrKind, less(p, 4, 7))
	to("A3 with 31 for a digest", api.ErrForm, swap(p, 7, in(0x31)))
	to("A3 with 5 for a digest", api.ErrForm, swap(p, 7, null))
	to("A3 with another digest", api.ErrKind, swap(p, 8, digest("08")))
	to("A3 with a digest without 05", api.ErrForm, less(p, 7, 9))
	to("A3 with a digest and another", api.ErrForm, swap(p, 9, is(4, "")))
	to("A3 with a digest and more", api.ErrForm, more(p, 7, 10, null))
	to("A3 with more than a digest", api.ErrForm, more(p, 4, 10, null))
	to("A3 with more than a derivation", api.ErrForm, more(p, 2, 10, null))
	to("A3 with another locking", api.ErrKind, swap(p, 11, aes("02")))
	to("A3 with locking alone", api.ErrForm, less(p, 10, 12))
	to("A3 with another chain", api.ErrKind, swap(p, 13, aes("05")))
	to("A3 without an iv", api.ErrForm, less(p, 12, 14))
	to("A3 with a short iv", api.ErrForm, swap(p, 14, is(4, long(15))))
	to("A3 with a long iv", api.ErrForm, swap(p, 14, is(4, long(17))))
	to("A3 with more than an iv", api.ErrForm, more(p, 12, 15, null))
	to("A3 with more than locking", api.ErrForm, more(p, 10, 15, null))
	to("A3 without a key", api.ErrForm, less(p, 0, 15))
	to("A3 with a short key", api.ErrForm, swap(p, 15, is(4, long(16))))
	to("A3 with a key of 40", api.ErrForm, swap(p, 15, is(4, long(40))))
	to("A3 with a long key", api.ErrForm, swap(p, 15, is(4, long(288))))
	to("A3 with more", api.ErrForm, more(p, 0, 16, null))
	// Content.
	cont("another tag", api.ErrForm, in(0x31))
	cont("empty", api.ErrForm, in(0x30))
	cont("another type", api.ErrKind, swap(c, 1, sealed))
	cont("no cipher", api.ErrForm, in(0x30, data))
	cont("another cipher", api.ErrKind, swap(c, 3, aes("02")))
	cont("no parameters", api.ErrForm, in(0x30, data, in(0x30, aes("06")), is(0x80, "")))
	cont("another cipher without parameters", api.ErrKind, in(0x30, data, in(0x30, aes("05"))))
	cont("no iv", api.ErrForm, swap(c, 4, in(0x30)))
	cont("an empty iv", api.ErrForm, swap(c, 5, is(4, "")))
	cont("a long iv", api.ErrForm, content("06", 1025, "", "t"))
	cont("a short nonce", api.ErrForm, content("07", 6, "", "t"))
	cont("a long nonce", api.ErrForm, content("07", 14, "", "t"))
	cont("a tag of 12 that is told", api.ErrForm, content("06", 12, "\x0c", "t"))
	cont("a tag of 11", api.ErrForm, content("06", 12, "\x0b", "t"))
	cont("a tag of 17", api.ErrForm, content("06", 12, "\x11", "t"))
	cont("a tag of 4 of GCM", api.ErrForm, content("06", 12, "\x04", "t"))
	cont("a tag of 256 and more", api.ErrForm, content("06", 12, "\x0d\x0d", "t"))
	cont("a tag below 0", api.ErrForm, content("06", 12, "\xff", "t"))
	cont("a tag of 13 of CCM", api.ErrForm, content("07", 12, "\x0d", "t"))
	cont("a tag of 12 of CCM that is told", api.ErrForm, content("07", 12, "\x0c", "t"))
	cont("a tag of 2 of CCM", api.ErrForm, content("07", 12, "\x02", "t"))
	cont("a tag of 18 of CCM", api.ErrForm, content("07", 12, "\x12", "t"))
	cont("a tag as bytes", api.ErrForm, swap(c, 4, in(0x30, is(4, long(12)), is(4, "\x10"))))
	cont("more than a tag", api.ErrForm, swap(c, 4, in(0x30, is(4, long(12)), is(2, "\x10"), is(2, "\x10"))))
	cont("more than parameters", api.ErrForm, more(c, 2, 6, null))
	cont("nothing sealed", api.ErrKind, less(c, 0, 6))
	cont("A0 for 80", api.ErrForm, swap(c, 6, in(0xa0)))
	cont("04 for 80", api.ErrForm, swap(c, 6, is(4, "text")))
	cont("more than what is sealed", api.ErrForm, more(c, 0, 7, null))
	cont("too long", api.ErrLimit, content("06", 12, "", long(70001)))
	cont("too long, and more", api.ErrLimit, more(content("06", 12, "", long(70001)), 0, 7, null))
	cont("too long for 13", api.ErrLimit, content("07", 13, "", long(65536)))
	cont("too long for CCM", api.ErrLimit, content("07", 12, "", long(70001)))
	// Attributes.
	attr("none", api.ErrForm, in(0xa1))
	attr("31 for A1", api.ErrForm, in(0x31, attribute))
	attr("31 for 30", api.ErrForm, in(0xa1, in(0x31, beside, in(0x31, null))))
	attr("empty", api.ErrForm, in(0xa1, in(0x30)))
	attr("without a type", api.ErrForm, in(0xa1, in(0x30, in(0x31, null))))
	attr("without values", api.ErrForm, in(0xa1, in(0x30, beside)))
	attr("with 30 for values", api.ErrForm, in(0xa1, in(0x30, beside, in(0x30, null))))
	attr("with no values", api.ErrForm, in(0xa1, in(0x30, beside, in(0x31))))
	attr("with more", api.ErrForm, in(0xa1, more(attribute, 0, 4, null)))
	attr("out of order", api.ErrForm, in(0xa1, attribute, in(0x30, data, in(0x31, null))))
	attr("too long", api.ErrLimit, in(0xa1, in(0x30, data, in(0x31, is(4, long(69970))))))
	attr("too long and out of order", api.ErrForm, in(0xa1, in(0x30, data, in(0x31, is(4, long(69970)))), in(0x30, data, in(0x31, is(4, "x")))))
	// The tag.
	add("no tag", api.ErrForm, func(p *parts) { p.tag = nil })
	add("a short tag", api.ErrForm, func(p *parts) { p.tag = is(4, long(11)) })
	add("a long tag", api.ErrForm, func(p *parts) { p.tag = is(4, long(13)) })
	add("a tag of another length than told", api.ErrForm, func(p *parts) { p.content = content("06", 12, "\x10", "t") })
	add("another tag's tag", api.ErrForm, func(p *parts) { p.tag = is(0x80, long(12)) })
	add("A2 behind", api.ErrKind, func(p *parts) { p.behind = []tree{in(0xa2)} })
	add("A2 behind a short tag", api.ErrForm, func(p *parts) { p.tag, p.behind = is(4, ""), []tree{in(0xa2)} })
	add("more behind", api.ErrForm, func(p *parts) { p.behind = []tree{null} })
	add("A2 ahead of the tag", api.ErrForm, func(p *parts) { p.attribute = in(0xa2) })
	for _, c := range cases {
		parts := usual()
		c.change(&parts)
		got, e := cms.Read(parts.bytes(t), most)
		if e != c.e || !same(got, api.Envelope{}) {
			t.Errorf("%s: %v, not %v", c.name, e, c.e)
		}
	}
	// Behind the elements in which all stands.
	l, _, _ := der.Decode(usual().bytes(t), most)
	for _, at := range []int{0, 2} {
		s, _ := der.Encode(more(l, at, len(l), null))
		if got, e := cms.Read(s, most); e != api.ErrForm || !same(got, api.Envelope{}) {
			t.Error(at, got, e)
		}
	}
}

// P23.1: limits.
func TestLimits(t *testing.T) {
	p := usual()
	p.to = []tree{password(8, "\x64", "09", "02", 32)}
	s := p.bytes(t)
	for _, c := range []struct {
		lim api.Limits
		e   api.Errno
	}{
		{api.Limits{Depth: 8, Items: 100, Bytes: len(s), Rounds: 100}, api.OK}, {api.Limits{Depth: 8, Items: 100, Bytes: len(s), Rounds: 99}, api.ErrLimit}, {api.Limits{Depth: 7, Items: 100, Bytes: len(s), Rounds: 100}, api.ErrLimit}, {api.Limits{Depth: 8, Items: 100, Bytes: len(s) - 1, Rounds: 100}, api.ErrLimit}, {api.Limits{Depth: 8, Items: 20, Bytes: len(s), Rounds: 100}, api.ErrLimit},
		{api.Limits{}, api.ErrArg}, {api.Limits{Depth: 8, Items: 100, Bytes: len(s), Rounds: 4097}, api.ErrArg},
	} {
		if _, e := cms.Read(s, c.lim); e != c.e {
			t.Error(c.lim, e)
		}
	}
	if _, e := cms.Read(s+"\x00", most); e != api.ErrForm {
		t.Error(e)
	}
	if _, e := cms.Read(s[:len(s)-1], most); e != api.ErrForm {
		t.Error(e)
	}
}

// P23.1: what can't be told.
func TestTellFaults(t *testing.T) {
	base, _ := cms.Read(usual().bytes(t), most)
	long := func(n int) string { return strings.Repeat("t", n) }
	pass := api.Recipient{Way: 3, Size: 16, Kind: 256, Salt: "ssssssss", Rounds: 1, IV: "iviviviviviviviv", Key: long(32)}
	one := func(change func(to *api.Recipient)) func(e *api.Envelope) {
		return func(e *api.Envelope) {
			to := e.To[0]
			change(&to)
			e.To = []api.Recipient{to}
		}
	}
	other := func(change func(to *api.Recipient)) func(e *api.Envelope) {
		return func(e *api.Envelope) {
			to := pass
			change(&to)
			e.To = []api.Recipient{to}
		}
	}
	for i, change := range []func(e *api.Envelope){
		func(e *api.Envelope) { *e = api.Envelope{} }, func(e *api.Envelope) { e.Format = 2 }, func(e *api.Envelope) { e.Format = 0 }, func(e *api.Envelope) { e.Alg = 0 }, func(e *api.Envelope) { e.Alg = 4 }, func(e *api.Envelope) { e.Alg = 200 }, func(e *api.Envelope) { e.Alg = 204 }, func(e *api.Envelope) { e.Alg = -1 }, func(e *api.Envelope) { e.Alg = 1<<63 - 1 },
		func(e *api.Envelope) { e.To = nil }, func(e *api.Envelope) { e.To = make([]api.Recipient, 9) }, func(e *api.Envelope) {
			e.To = []api.Recipient{toWrapped, toWrapped, toWrapped, toWrapped, toWrapped, toWrapped, toWrapped, toWrapped, toWrapped}
		}, func(e *api.Envelope) { e.To = []api.Recipient{pass, toWrapped} }, func(e *api.Envelope) { e.To = make([]api.Recipient, 5000) },
		func(e *api.Envelope) { e.Header = "x" }, func(e *api.Envelope) { e.Header = "\x31\x00" }, func(e *api.Envelope) { e.Header = "\x05\x00" }, func(e *api.Envelope) { e.Header = bin("a1 0b 30 09 06 03 2a 03 04 31 02 05 00") }, func(e *api.Envelope) { e.Header = bin("31 0b 30 09 06 03 2a 03 04 31 02 05 00") + "\x00" }, func(e *api.Envelope) { e.Header = cms.Attributes("x")[:10] },
		func(e *api.Envelope) { e.Loose = "x" }, func(e *api.Envelope) { e.Aad = "x" }, func(e *api.Envelope) { e.IV = "" }, func(e *api.Envelope) { e.IV = long(1025) }, func(e *api.Envelope) { e.Alg, e.IV = 201, long(14) }, func(e *api.Envelope) { e.Cipher = long(70001) }, func(e *api.Envelope) { e.Cipher = long(1 << 20) }, func(e *api.Envelope) { e.Tag = "" }, func(e *api.Envelope) { e.Tag = long(11) }, func(e *api.Envelope) { e.Tag = long(17) }, func(e *api.Envelope) { e.Tag = long(300) }, func(e *api.Envelope) { e.Alg, e.Tag = 201, long(13) },
		one(func(to *api.Recipient) { to.Way = 0 }), one(func(to *api.Recipient) { to.Way = 1 }), one(func(to *api.Recipient) { to.Way = 3 }), one(func(to *api.Recipient) { to.Size = 17 }), one(func(to *api.Recipient) { to.Size = 0 }), one(func(to *api.Recipient) { to.Kind = 256 }), one(func(to *api.Recipient) { to.Name = "" }), one(func(to *api.Recipient) { to.Name = long(129) }), one(func(to *api.Recipient) { to.Key = long(23) }), one(func(to *api.Recipient) { to.Salt = "x" }), one(func(to *api.Recipient) { to.Rounds = 1 }), one(func(to *api.Recipient) { to.IV = "x" }), one(func(to *api.Recipient) { to.Loose = "x" }),
		other(func(to *api.Recipient) { to.Size = 20 }), other(func(to *api.Recipient) { to.Kind = 0 }), other(func(to *api.Recipient) { to.Kind = 1 }), other(func(to *api.Recipient) { to.Name = "password" }), other(func(to *api.Recipient) { to.Key = long(24) }), other(func(to *api.Recipient) { to.Salt = "sssssss" }), other(func(to *api.Recipient) { to.Rounds = 0 }), other(func(to *api.Recipient) { to.Rounds = -1 }), other(func(to *api.Recipient) { to.Rounds = -1 << 63 }), other(func(to *api.Recipient) { to.Rounds = 4097 }), other(func(to *api.Recipient) { to.IV = "" }), other(func(to *api.Recipient) { to.Loose = "{}" }),
	} {
		e := base
		change(&e)
		if s, no := cms.Tell(e); s != "" || no != api.ErrArg {
			t.Errorf("%d: %x, %v", i, s, no)
		}
	}
	e := base
	e.To = []api.Recipient{toWrapped, pass}
	if s, no := cms.Tell(e); s == "" || no != api.OK {
		t.Error(no)
	}
}

// P23.2
func TestAttributes(t *testing.T) {
	for _, aad := range []string{"a", "beside", strings.Repeat("x", 70000)} {
		d := sha256.Sum256([]byte(aad))
		want := bin("31 31 30 2f 06 09 2a 86 48 86 f7 0d 01 09 04 31 22 04 20") + string(d[:])
		if got := cms.Attributes(aad); got != want {
			t.Errorf("%x", got)
		}
		e, _ := cms.Read(usual().bytes(t), most)
		e.Header = want
		if _, no := cms.Tell(e); no != api.OK {
			t.Error(no)
		}
	}
}

// P23.2
func TestSorted(t *testing.T) {
	r := rand.New(rand.NewSource(1))
	bytes := func(to api.Recipient) string {
		e, _ := cms.Read(usual().bytes(t), most)
		e.To = []api.Recipient{to}
		s, no := cms.Tell(e)
		if no != api.OK {
			return ""
		}
		l, _, _ := der.Decode(s, most)
		for i := range l {
			if l[i].Tag == 0xa2 || l[i].Tag == 0xa3 {
				end := i + 1
				for wanted := l[i].Kids; wanted > 0; end++ {
					wanted += max(l[end].Kids, 0) - 1
				}
				out, _ := der.Encode(l[i:end])
				return out
			}
		}
		return ""
	}
	var all []api.Recipient
	for i := range 40 {
		to := api.Recipient{Way: 2, Size: 16 + 8*r.Intn(3), Name: strings.Repeat("n", 1+r.Intn(5)), Key: strings.Repeat("k", 24+8*r.Intn(5))}
		if i%3 == 0 {
			to = api.Recipient{Way: 3, Size: 16 + 8*r.Intn(3), Kind: 256, Salt: strings.Repeat("s", 8+r.Intn(3)), Rounds: 1 + r.Intn(300), IV: "iviviviviviviviv", Key: strings.Repeat("k", 32)}
		}
		if i%5 == 0 {
			to = api.Recipient{Way: r.Intn(2), Name: strings.Repeat("x", i)}
		}
		if i%7 == 0 {
			to.Key = strings.Repeat("z", i)
		}
		all = append(all, to)
	}
	for n := range len(all) + 1 {
		l := append([]api.Recipient{}, all[:n]...)
		want := append([]api.Recipient{}, l...)
		sort.SliceStable(want, func(i, j int) bool { return bytes(want[i]) < bytes(want[j]) })
		got := cms.Sorted(l)
		if len(got)+len(want) > 0 && !reflect.DeepEqual(got, want) {
			t.Fatal(n, got, want)
		}
		if n > 0 && !reflect.DeepEqual(l, all[:n]) {
			t.Fatal("changed")
		}
		if n > 0 {
			got[0].Name = "changed"
			if l[0].Name == "changed" {
				t.Fatal("shared")
			}
		}
	}
	if len(cms.Sorted(nil)) != 0 {
		t.Error("of none")
	}
	// Sorted ones can be told.
	a, b := toWrapped, toWrapped
	a.Name, b.Name = "b", "a"
	e, _ := cms.Read(usual().bytes(t), most)
	e.To = []api.Recipient{a, b}
	if _, no := cms.Tell(e); no != api.ErrArg {
		t.Error(no)
	}
	e.To = cms.Sorted(e.To)
	if _, no := cms.Tell(e); no != api.OK || e.To[0].Name != "a" {
		t.Error(no)
	}
}

// P23.3: whatever is read is told by the bytes that it was.
func TestChanged(t *testing.T) {
	r := rand.New(rand.NewSource(2))
	p := usual()
	p.to = []tree{wrapped("k", "05", 24), password(8, "\x01", "09", "02", 32)}
	p.attribute = in(0xa1, in(0x30, beside, in(0x31, is(4, "x"))))
	p.content, p.tag = content("07", 12, "\x10", "text"), is(4, "tagtagtagtagtagg")
	s := p.bytes(t)
	read := 0
	for range 40000 {
		b := []byte(s)
		for range 1 + r.Intn(3) {
			i := r.Intn(len(b))
			if r.Intn(2) == 0 {
				b[i] = byte(r.Intn(256))
			} else {
				b[i] += byte(r.Intn(3)) - 1
			}
		}
		got, e := cms.Read(string(b), most)
		if e != api.OK {
			if !same(got, api.Envelope{}) || e != api.ErrForm && e != api.ErrLimit && e != api.ErrKind {
				t.Fatal(got, e)
			}
			continue
		}
		read++
		if back, e := cms.Tell(got); e != api.OK || back != string(b) {
			t.Fatalf("%x: %x, %v", b, back, e)
		}
	}
	if read < 1000 {
		t.Error(read)
	}
}
