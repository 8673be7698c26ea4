package jwe_test

import (
	"encoding/base64"
	"math/rand"
	"reflect"
	"strings"
	"testing"

	"pyxis/api"
	"pyxis/jwe"
)

var most = api.Limits{Depth: 32, Items: 4096, Bytes: 262144, Rounds: 4096}

func b64(s string) string { return base64.RawURLEncoding.EncodeToString([]byte(s)) }

func long(n int) string { return strings.Repeat("x", n) }

func same(a, b api.Envelope) bool {
	if len(a.To) == 0 && len(b.To) == 0 {
		a.To, b.To = nil, nil
	}
	return reflect.DeepEqual(a, b)
}

// five is a text of five parts, the header as JSON.
func five(header string, rest ...string) string {
	out := b64(header)
	for _, x := range rest {
		out += "." + b64(x)
	}
	return out
}

const (
	iv12 = "iviviviviviv"
	iv16 = "iviviviviviviviv"
	tag  = "tagtagtagtagtagg"
)

// read asks for an envelope and, told again, for the same text, or another one that is told.
func read(t *testing.T, s, told string, want api.Envelope) {
	t.Helper()
	got, e := jwe.Read(s, most)
	if e != api.OK || !same(got, want) {
		t.Errorf("%.300s: %v, %.300v", s, e, got)
		return
	}
	back, e := jwe.Tell(want)
	if e != api.OK || back != told {
		t.Errorf("%.300s: told %v, %.300s", s, e, back)
	}
	if again, e := jwe.Read(back, most); e != api.OK || !same(again, want) {
		t.Errorf("%.300s: again %v, %.300v", s, e, again)
	}
}

// The chapter's examples.
func TestExamples(t *testing.T) {
	for _, s := range []string{"", "a.b", "....", " ", "\n\t", "{"} {
		if got, e := jwe.Read(s, most); e != api.ErrForm || !same(got, api.Envelope{}) {
			t.Errorf("%q: %v, %v", s, got, e)
		}
	}
	if got, e := jwe.Head(1, api.Recipient{Way: api.Direct}); got != "eyJhbGciOiJkaXIiLCJlbmMiOiJBMTI4R0NNIn0" || e != api.OK {
		t.Error(got, e)
	}
}

var (
	ciphers = []struct {
		alg, key, iv, tag int
		name              string
	}{{1, 16, 12, 16, "A128GCM"}, {2, 24, 12, 16, "A192GCM"}, {3, 32, 12, 16, "A256GCM"}, {4, 32, 16, 16, "A128CBC-HS256"}, {5, 48, 16, 24, "A192CBC-HS384"}, {6, 64, 16, 32, "A256CBC-HS512"}}
	ways = []struct {
		name string
		to   api.Recipient
	}{{"dir", api.Recipient{Way: 1}}, {"A128KW", api.Recipient{Way: 2, Size: 16}}, {"A192KW", api.Recipient{Way: 2, Size: 24}}, {"A256KW", api.Recipient{Way: 2, Size: 32}},
		{"PBES2-HS256+A128KW", api.Recipient{Way: 3, Size: 16, Kind: 256, Salt: "saltsalt", Rounds: 7}}, {"PBES2-HS384+A192KW", api.Recipient{Way: 3, Size: 24, Kind: 384, Salt: "saltsalt", Rounds: 7}}, {"PBES2-HS512+A256KW", api.Recipient{Way: 3, Size: 32, Kind: 512, Salt: "saltsalt", Rounds: 7}}}
)

// P24.1: all ciphers and ways, in the three forms.
func TestAll(t *testing.T) {
	for _, c := range ciphers {
		for _, w := range ways {
			for _, kid := range []string{"", "k", long(128), "é\"\\\n"} {
				to := w.to
				to.Name = kid
				key := ""
				if to.Way != api.Direct {
					key = long(c.key + 8)
				}
				iv, sealed, tag := long(c.iv), long(32), long(c.tag)
				head, e := jwe.Head(c.alg, to)
				if e != api.OK {
					t.Fatal(e)
				}
				json, _ := base64.RawURLEncoding.DecodeString(head)
				wantHead := `{"alg":"` + w.name + `","enc":"` + c.name + `"`
				rest := ""
				if kid != "" {
					rest += `,"kid":"` + strings.NewReplacer(`"`, `\"`, `\`, `\\`, "\n", `\u000a`).Replace(kid) + `"`
				}
				if to.Way == api.Password {
					rest += `,"p2s":"` + b64("saltsalt") + `","p2c":7`
				}
				if string(json) != wantHead+rest+"}" {
					t.Errorf("Head: %s", json)
				}
				shared, own, e := jwe.Heads(c.alg, to)
				if e != api.OK || shared != b64(`{"enc":"`+c.name+`"}`) || own != `{"alg":"`+w.name+`"`+rest+"}" {
					t.Errorf("Heads: %s, %s, %v", shared, own, e)
				}
				to.Key = key
				want := api.Envelope{Format: api.Compact, Alg: c.alg, To: []api.Recipient{to}, Header: head, IV: iv, Cipher: sealed, Tag: tag}
				s := head + "." + b64(key) + "." + b64(iv) + "." + b64(sealed) + "." + b64(tag)
				read(t, s, s, want)
				encrypted := ""
				if key != "" {
					encrypted = `"encrypted_key":"` + b64(key) + `",`
				}
				behind := `"iv":"` + b64(iv) + `","ciphertext":"` + b64(sealed) + `","tag":"` + b64(tag) + `"}`
				want.Format = api.Flat
				s = `{"protected":"` + head + `",` + encrypted + behind
				read(t, s, s, want)
				want.Format, want.Header, want.Aad = api.General, shared, "beside"
				want.To = append([]api.Recipient{}, want.To...)
				want.To[0].Loose = own
				recipient := `{"header":` + own
				if key != "" {
					recipient += `,` + strings.TrimSuffix(encrypted, ",")
				}
				s = `{"protected":"` + shared + `","recipients":[` + recipient + `}],"aad":"` + b64("beside") + `",` + behind
				read(t, s, s, want)
				if to.Way != api.Direct {
					want.To = append(want.To, want.To[0])
					s = `{"protected":"` + shared + `","recipients":[` + recipient + `},` + recipient + `}],"aad":"` + b64("beside") + `",` + behind
					read(t, s, s, want)
				}
			}
		}
	}
}

// P24.1: headers in all places; members in any order, with blanks.
func TestPlaces(t *testing.T) {
	key := long(24)
	want := api.Envelope{Format: api.Flat, Alg: 1, IV: iv12, Cipher: "", Tag: tag, To: []api.Recipient{{Way: 2, Size: 16, Name: "k", Key: key}}}
	behind := `"encrypted_key":"` + b64(key) + `","iv":"` + b64(iv12) + `","ciphertext":"","tag":"` + b64(tag) + `"}`
	one := want
	one.Header = b64(`{"x":[1,{}]}`)
	one.Loose, one.To = `{"enc":"A128GCM"}`, []api.Recipient{{Way: 2, Size: 16, Name: "k", Key: key, Loose: `{"alg":"A128KW","kid":"k"}`}}
	s := `{"protected":"` + one.Header + `","unprotected":{"enc":"A128GCM"},"header":{"alg":"A128KW","kid":"k"},` + behind
	read(t, s, s, one)
	read(t, "\t\n\r "+strings.NewReplacer(":", " : ", ",", "\n,\t").Replace(s)+"  ", s, one)
	read(t, strings.NewReplacer("A128KW", `A128\u004bW`, `"kid"`, `"\u006bid"`, `"tag"`, `"t\u0061g"`).Replace(s), s, one)
	two := want
	two.Header = b64(` {"alg" : "A128KW" } `)
	two.Loose = `{"kid":"k","enc":"A128GCM","y":-1.0e5}`
	s = `{"protected":"` + two.Header + `","unprotected":{"kid":"k","enc":"A128GCM","y":-1.0e5},` + behind
	read(t, s, s, two)
	// Another order of the members.
	s2 := `{"tag":"` + b64(tag) + `","iv":"` + b64(iv12) + `","unprotected":{"kid":"k","enc":"A128GCM","y":-1.0e5},"ciphertext":"","encrypted_key":"` + b64(key) + `","protected":"` + two.Header + `"}`
	read(t, s2, s, two)
	// Empty headers are there, too.
	three := want
	three.Header = b64(`{"alg":"A128KW","enc":"A128GCM","kid":"k"}`)
	three.Loose, three.To = "{}", []api.Recipient{{Way: 2, Size: 16, Name: "k", Key: key, Loose: "{}"}}
	s = `{"protected":"` + three.Header + `","unprotected":{},"header":{},` + behind
	read(t, s, s, three)
	// A direct one alone, with nothing of its own.
	four := want
	four.Format, four.Header = api.General, b64(`{"alg":"dir","enc":"A128GCM"}`)
	four.To = []api.Recipient{{Way: 1}}
	s = `{"protected":"` + four.Header + `","recipients":[{}],"iv":"` + b64(iv12) + `","ciphertext":"","tag":"` + b64(tag) + `"}`
	read(t, s, s, four)
	// Eight, of several ways and sizes, with names in all places.
	five := want
	five.Format, five.Header, five.Loose = api.General, b64(`{"enc":"A128GCM"}`), `{"p2s":"c2FsdHNhbHQ","p2c":9}`
	five.To = nil
	list := ""
	for i := range 8 {
		to := api.Recipient{Way: 2, Size: 24, Key: key, Loose: `{"alg":"A192KW"}`}
		if i%2 == 1 {
			to = api.Recipient{Way: 3, Size: 32, Kind: 512, Salt: "saltsalt", Rounds: 9, Name: "n", Key: key, Loose: `{"alg":"PBES2-HS512+A256KW","kid":"n"}`}
		}
		five.To = append(five.To, to)
		list += `,{"header":` + to.Loose + `,"encrypted_key":"` + b64(key) + `"}`
	}
	s = `{"protected":"` + five.Header + `","unprotected":` + five.Loose + `,"recipients":[` + list[1:] + `],"iv":"` + b64(iv12) + `","ciphertext":"","tag":"` + b64(tag) + `"}`
	read(t, s, s, five)
	if _, e := jwe.Read(strings.Replace(s, `"recipients":[`, `"recipients":[`+list[1:]+",", 1), most); e != api.ErrLimit {
		t.Error(e)
	}
}

// P24.1: what isn't as told, of five parts.
func TestCompactFaults(t *testing.T) {
	key := long(24)
	head := `{"alg":"A128KW","enc":"A128GCM"}`
	dir := `{"alg":"dir","enc":"A128GCM"}`
	pass := func(rest string) string { return `{"alg":"PBES2-HS256+A128KW","enc":"A128GCM"` + rest + `}` }
	chained := `{"alg":"dir","enc":"A128CBC-HS256"}`
	for _, c := range []struct {
		s string
		e api.Errno
	}{
		{five(head, key, iv12, "t", tag), api.OK}, {five(dir, "", iv12, "t", tag), api.OK}, {five(pass(`,"p2s":"c2FsdHNhbHQ","p2c":1`), key, iv12, "t", tag), api.OK},
		{five(head, key, iv12, "t"), api.ErrForm}, {five(head, key, iv12, "t", tag, ""), api.ErrForm}, {five(head, key, iv12, "t", tag) + "=", api.ErrForm}, {five(head, key, iv12, "t", tag) + "\n", api.ErrForm}, {" " + five(head, key, iv12, "t", tag), api.ErrForm}, {five(head, key, iv12, "t", tag)[1:], api.ErrForm}, {b64(head) + "." + b64(key) + "." + b64(iv12) + ".dB." + b64(tag), api.ErrForm}, {b64(head) + ".*.." + "." + "", api.ErrForm},
		// the protected header
		{five("", key, iv12, "t", tag), api.ErrForm}, {five("x", key, iv12, "t", tag), api.ErrForm}, {five("{}", key, iv12, "t", tag), api.ErrForm}, {five("[1]", key, iv12, "t", tag), api.ErrForm}, {five("5", key, iv12, "t", tag), api.ErrForm}, {five(`"alg"`, key, iv12, "t", tag), api.ErrForm}, {five(head+"x", key, iv12, "t", tag), api.ErrForm}, {five(`{"alg":"dir","alg":"dir","enc":"A128GCM"}`, "", iv12, "t", tag), api.ErrForm}, {five(`{"x":`+strings.Repeat("[", 32)+strings.Repeat("]", 32)+`}`, "", iv12, "t", tag), api.ErrLimit}, {five(head+"  ", key, iv12, "t", tag), api.OK},
		// crit and zip
		{five(`{"alg":"dir","enc":"A128GCM","crit":[]}`, "", iv12, "t", tag), api.ErrKind}, {five(`{"zip":null}`, "", "", "", ""), api.ErrKind}, {five(`{"alg":"dir","enc":"A128GCM","x":{"crit":1}}`, "", iv12, "t", tag), api.OK}, {five(`{"crit":1,"enc":5}`, "", iv12, "t", tag), api.ErrKind},
		// enc
		{five(`{"alg":"dir"}`, "", iv12, "t", tag), api.ErrForm}, {five(`{"alg":"dir","enc":1}`, "", iv12, "t", tag), api.ErrForm}, {five(`{"alg":"dir","enc":null}`, "", iv12, "t", tag), api.ErrForm}, {five(`{"alg":"dir","enc":"A128gcm"}`, "", iv12, "t", tag), api.ErrKind}, {five(`{"alg":"dir","enc":""}`, "", iv12, "t", tag), api.ErrKind}, {five(`{"alg":5,"enc":"x"}`, "", iv12, "t", tag), api.ErrKind}, {five(`{"alg":"dir","enc":"A128KW"}`, "", iv12, "t", tag), api.ErrKind},
		// alg
		{five(`{"enc":"A128GCM"}`, "", iv12, "t", tag), api.ErrForm}, {five(`{"enc":"A128GCM","alg":["dir"]}`, "", iv12, "t", tag), api.ErrForm}, {five(`{"enc":"A128GCM","alg":"RSA-OAEP"}`, "", iv12, "t", tag), api.ErrKind}, {five(`{"enc":"A128GCM","alg":""}`, "", iv12, "t", tag), api.ErrKind}, {five(`{"enc":"A128GCM","alg":"A128GCMKW","kid":1}`, "", iv12, "t", tag), api.ErrKind}, {five(`{"enc":"A128GCM","alg":"PBES2-HS256+A256KW"}`, "", iv12, "t", tag), api.ErrKind},
		// kid
		{five(`{"enc":"A128GCM","alg":"dir","kid":""}`, "", iv12, "t", tag), api.ErrForm}, {five(`{"enc":"A128GCM","alg":"dir","kid":1}`, "", iv12, "t", tag), api.ErrForm}, {five(`{"enc":"A128GCM","alg":"dir","kid":"`+long(129)+`"}`, "", iv12, "t", tag), api.ErrForm}, {five(`{"enc":"A128GCM","alg":"dir","kid":"`+long(127)+`é"}`, "", iv12, "t", tag), api.ErrForm}, {five(`{"enc":"A128GCM","alg":"dir","kid":"`+long(128)+`"}`, "", iv12, "t", tag), api.OK},
		// p2s, p2c
		{five(pass(``), key, iv12, "t", tag), api.ErrForm}, {five(pass(`,"p2c":1`), key, iv12, "t", tag), api.ErrForm}, {five(pass(`,"p2s":"c2FsdHNhbHQ"`), key, iv12, "t", tag), api.ErrForm}, {five(pass(`,"p2s":5,"p2c":1`), key, iv12, "t", tag), api.ErrForm}, {five(pass(`,"p2s":"*","p2c":1`), key, iv12, "t", tag), api.ErrForm}, {five(pass(`,"p2s":"`+b64(long(7))+`","p2c":1`), key, iv12, "t", tag), api.ErrForm}, {five(pass(`,"p2s":"`+b64(long(1001))+`","p2c":1`), key, iv12, "t", tag), api.ErrForm}, {five(pass(`,"p2s":"`+b64(long(1000))+`","p2c":4096`), key, iv12, "t", tag), api.OK},
		{five(pass(`,"p2s":"c2FsdHNhbHQ","p2c":0`), key, iv12, "t", tag), api.ErrForm}, {five(pass(`,"p2s":"c2FsdHNhbHQ","p2c":-1`), key, iv12, "t", tag), api.ErrForm}, {five(pass(`,"p2s":"c2FsdHNhbHQ","p2c":1.0`), key, iv12, "t", tag), api.ErrForm}, {five(pass(`,"p2s":"c2FsdHNhbHQ","p2c":1e3`), key, iv12, "t", tag), api.ErrForm}, {five(pass(`,"p2s":"c2FsdHNhbHQ","p2c":"1"`), key, iv12, "t", tag), api.ErrForm}, {five(pass(`,"p2s":"c2FsdHNhbHQ","p2c":true`), key, iv12, "t", tag), api.ErrForm}, {five(pass(`,"p2s":"c2FsdHNhbHQ","p2c":4097`), key, iv12, "t", tag), api.ErrLimit}, {five(pass(`,"p2s":"c2FsdHNhbHQ","p2c":9223372036854775808`), key, iv12, "t", tag), api.ErrLimit}, {five(pass(`,"p2s":"c2FsdHNhbHQ","p2c":18446744073709551617`), key, iv12, "t", tag), api.ErrLimit}, {five(pass(`,"p2s":"c2FsdHNhbHQ","p2c":1`+strings.Repeat("0", 100)), key, iv12, "t", tag), api.ErrLimit}, {five(pass(`,"p2s":"","p2c":4097`), key, iv12, "t", tag), api.ErrForm},
		{five(`{"enc":"A128GCM","alg":"A128KW","p2c":0,"p2s":5}`, key, iv12, "t", tag), api.OK},
		// the key
		{five(dir, "k", iv12, "t", tag), api.ErrForm}, {five(head, "", iv12, "t", tag), api.ErrForm}, {five(head, long(23), iv12, "t", tag), api.ErrForm}, {five(head, long(32), iv12, "t", tag), api.ErrForm}, {five(`{"alg":"A256KW","enc":"A128CBC-HS256"}`, long(24), iv16, long(16), tag), api.ErrForm}, {five(`{"alg":"A256KW","enc":"A128CBC-HS256"}`, long(40), iv16, long(16), tag), api.OK}, {five(pass(`,"p2s":"c2FsdHNhbHQ","p2c":1`), "", iv12, "t", tag), api.ErrForm},
		// lengths
		{five(dir, "", iv12[1:], "t", tag), api.ErrForm}, {five(dir, "", iv16, "t", tag), api.ErrForm}, {five(dir, "", "", "t", tag), api.ErrForm}, {five(dir, "", iv12, "t", tag[1:]), api.ErrForm}, {five(dir, "", iv12, "t", tag+"t"), api.ErrForm}, {five(dir, "", iv12, "t", ""), api.ErrForm}, {five(dir, "", iv12, "", tag), api.OK},
		{five(chained, "", iv16, long(16), tag), api.OK}, {five(chained, "", iv16, "", tag), api.ErrForm}, {five(chained, "", iv16, long(15), tag), api.ErrForm}, {five(chained, "", iv16, long(17), tag), api.ErrForm}, {five(chained, "", iv12, long(16), tag), api.ErrForm}, {five(`{"alg":"dir","enc":"A256CBC-HS512"}`, "", iv16, long(16), tag), api.ErrForm},
		{five(dir, "", iv12, long(70000), tag), api.OK}, {five(dir, "", iv12, long(70001), tag), api.ErrLimit}, {five(dir, "", iv12[1:], long(70001), tag), api.ErrForm}, {five(chained, "", iv16, long(70016), tag), api.OK}, {five(chained, "", iv16, long(70032), tag), api.ErrLimit}, {five(chained, "", iv16, long(70017), tag), api.ErrForm},
		{five(`{"alg":"dir","enc":"A128GCM","x":"`+long(52464)+`"}`, "", iv12, "t", tag), api.OK}, {five(`{"alg":"dir","enc":"A128GCM","x":"`+long(52465)+`"}`, "", iv12, "t", tag), api.ErrLimit},
	} {
		got, e := jwe.Read(c.s, most)
		if e != c.e || e != api.OK && !same(got, api.Envelope{}) {
			t.Errorf("%.200s: %v, not %v", c.s, e, c.e)
		}
		if e != api.OK {
			continue
		}
		if back, e := jwe.Tell(got); e != api.OK || back != c.s {
			t.Errorf("%.200s: %v, %.200s", c.s, e, back)
		}
	}
}

// P24.1: what isn't as told, of an object.
func TestObjectFaults(t *testing.T) {
	key, head := `"encrypted_key":"`+b64(long(24))+`"`, b64(`{"alg":"A128KW","enc":"A128GCM"}`)
	enc := b64(`{"enc":"A128GCM"}`)
	iv, sealed, tag := `"iv":"`+b64(iv12)+`"`, `"ciphertext":"dA"`, `"tag":"`+b64(tag)+`"`
	obj := func(l ...string) string { return "{" + strings.Join(l, ",") + "}" }
	prot := `"protected":"` + head + `"`
	protEnc := `"protected":"` + enc + `"`
	to := `{"header":{"alg":"A128KW"},` + key + `}`
	ctrl := func(n int) string { return strings.Repeat(`\n`, n) }
	for _, c := range []struct {
		s string
		e api.Errno
	}{
		{obj(prot, key, iv, sealed, tag), api.OK}, {obj(protEnc, `"recipients":[`+to+`]`, iv, sealed, tag), api.OK},
		{obj(prot, key, iv, sealed, tag) + "x", api.ErrForm}, {"[" + obj(prot, key, iv, sealed, tag) + "]", api.ErrForm}, {obj(), api.ErrForm}, {obj(prot, prot, key, iv, sealed, tag), api.ErrForm},
		// members
		{obj(prot, key, iv, sealed, tag, `"x":1`), api.ErrKind}, {obj(`"x":1`), api.ErrKind}, {obj(`"alg":"dir"`), api.ErrKind}, {obj(`"iv":5`, `"x":1`), api.ErrForm}, {obj(`"x":1`, `"iv":5`), api.ErrKind}, {obj(`"":1`), api.ErrKind}, {obj(`"Protected":"`+head+`"`, key, iv, sealed, tag), api.ErrKind},
		{obj(key, iv, sealed, tag), api.ErrForm}, {obj(prot, key, sealed, tag), api.ErrForm}, {obj(prot, key, iv, tag), api.ErrForm}, {obj(prot, key, iv, sealed), api.ErrForm},
		{obj(`"protected":{"alg":"dir"}`, `"x":1`), api.ErrForm}, {obj(`"protected":"*"`, `"x":1`), api.ErrForm}, {obj(`"tag":null`, `"x":1`), api.ErrForm}, {obj(`"ciphertext":"a"`, `"x":1`), api.ErrForm}, {obj(`"aad":""`, `"x":1`), api.ErrForm}, {obj(`"aad":5`, `"x":1`), api.ErrForm}, {obj(`"aad":"-"`, `"x":1`), api.ErrForm}, {obj(`"encrypted_key":""`, `"x":1`), api.ErrForm}, {obj(`"encrypted_key":{}`, `"x":1`), api.ErrForm}, {obj(`"header":"x"`, `"x":1`), api.ErrForm}, {obj(`"header":[]`, `"x":1`), api.ErrForm}, {obj(`"unprotected":[]`, `"x":1`), api.ErrForm}, {obj(`"unprotected":null`, `"x":1`), api.ErrForm}, {obj(`"aad":"YQ"`, `"x":1`), api.ErrKind}, {obj(`"iv":""`, `"x":1`), api.ErrKind}, {obj(`"protected":""`, `"x":1`), api.ErrKind},
		// recipients
		{obj(`"recipients":[]`, `"x":1`), api.ErrForm}, {obj(`"recipients":{}`, `"x":1`), api.ErrForm}, {obj(`"recipients":"x"`, `"x":1`), api.ErrForm}, {obj(`"recipients":[1]`, `"x":1`), api.ErrForm}, {obj(`"recipients":[1,1,1,1,1,1,1,1,1]`, `"x":1`), api.ErrLimit}, {obj(`"recipients":[{"x":1},1]`), api.ErrKind}, {obj(`"recipients":[1,{"x":1}]`), api.ErrForm}, {obj(`"recipients":[{"iv":""}]`), api.ErrKind}, {obj(`"recipients":[{"header":1}]`, `"x":1`), api.ErrForm}, {obj(`"recipients":[{"header":{},"encrypted_key":""}]`, `"x":1`), api.ErrForm}, {obj(`"recipients":[{"header":{},"encrypted_key":1}]`, `"x":1`), api.ErrForm}, {obj(`"recipients":[{"header":{},"encrypted_key":"a"}]`, `"x":1`), api.ErrForm}, {obj(`"recipients":[{}]`, `"x":1`), api.ErrKind},
		{obj(protEnc, `"recipients":[`+to+`]`, `"header":{}`, iv, sealed, tag), api.ErrForm}, {obj(protEnc, `"header":{}`, `"recipients":[`+to+`]`, iv, sealed, tag), api.ErrForm}, {obj(protEnc, `"recipients":[`+to+`]`, key, iv, sealed, tag), api.ErrForm}, {obj(protEnc, key, `"recipients":[`+to+`]`, iv, sealed, tag), api.ErrForm}, {obj(`"protected":"`+b64(`{"crit":1}`)+`"`, key, `"recipients":[`+to+`]`, iv, sealed, tag), api.ErrForm},
		{obj(protEnc, `"recipients":[{"header":{"alg":"dir"}}]`, iv, sealed, tag), api.OK}, {obj(protEnc, `"recipients":[{"header":{"alg":"dir"}},`+to+`]`, iv, sealed, tag), api.ErrForm}, {obj(protEnc, `"recipients":[`+to+`,{"header":{"alg":"dir"}}]`, iv, sealed, tag), api.ErrForm}, {obj(protEnc, `"recipients":[{"header":{"alg":"dir"},`+key+`}]`, iv, sealed, tag), api.ErrForm}, {obj(protEnc, `"recipients":[{"header":{"alg":"A128KW"}}]`, iv, sealed, tag), api.ErrForm}, {obj(protEnc, `"recipients":[`+to+`,{"header":{"alg":"x"}}]`, iv, sealed, tag), api.ErrKind}, {obj(protEnc, `"recipients":[{"header":{"alg":"A128KW"}},{"header":{"alg":"x"}}]`, iv, sealed, tag), api.ErrForm}, {obj(protEnc, `"recipients":[{"header":{}},{"header":{"alg":"x"}}]`, iv, sealed, tag), api.ErrForm},
		// the protected header
		{obj(`"protected":""`, key, iv, sealed, tag), api.ErrForm}, {obj(`"protected":"e30"`, `"unprotected":{"alg":"A128KW","enc":"A128GCM"}`, key, iv, sealed, tag), api.ErrForm}, {obj(`"protected":"`+b64("[1]")+`"`, `"unprotected":{"crit":1}`, key, iv, sealed, tag), api.ErrForm},
		// crit and zip
		{obj(prot, `"unprotected":{"crit":1}`, key, iv, sealed, tag), api.ErrKind}, {obj(prot, `"header":{"zip":"DEF"}`, key, iv, sealed, tag), api.ErrKind}, {obj(protEnc, `"recipients":[`+to+`,{"header":{"crit":1}}]`, iv, sealed, tag), api.ErrKind}, {obj(`"protected":"`+b64(`{"x":1}`)+`"`, `"unprotected":{"crit":1}`, key, iv, sealed, tag), api.ErrKind}, {obj(prot, `"unprotected":{"Crit":1}`, key, iv, sealed, tag), api.OK},
		// enc
		{obj(`"protected":"`+b64(`{"x":1}`)+`"`, `"header":{"alg":"A128KW","enc":"A128GCM"}`, key, iv, sealed, tag), api.ErrForm}, {obj(protEnc, `"unprotected":{"enc":"x"}`, `"header":{"alg":"A128KW"}`, key, iv, sealed, tag), api.ErrForm}, {obj(`"protected":"`+b64(`{"x":1}`)+`"`, `"unprotected":{"enc":"x"}`, `"header":{"alg":1}`, key, iv, sealed, tag), api.ErrKind}, {obj(`"protected":"`+b64(`{"enc":"x"}`)+`"`, `"unprotected":{"enc":1}`, `"header":{"alg":1}`, key, iv, sealed, tag), api.ErrKind},
		// names twice
		{obj(prot, `"unprotected":{"alg":"A128KW"}`, key, iv, sealed, tag), api.ErrForm}, {obj(prot, `"header":{"enc":"A128GCM"}`, key, iv, sealed, tag), api.ErrForm}, {obj(prot, `"unprotected":{"y":1}`, `"header":{"y":1}`, key, iv, sealed, tag), api.ErrForm}, {obj(protEnc, `"recipients":[{"header":{"alg":"x","y":1}},{"header":{"alg":"x","y":1}}]`, iv, sealed, tag), api.ErrKind}, {obj(protEnc, `"unprotected":{"y":1}`, `"recipients":[`+to+`,{"header":{"alg":"x","y":1}}]`, iv, sealed, tag), api.ErrForm}, {obj(prot, `"unprotected":{"alg":"x"}`, key, iv, sealed, tag), api.ErrForm},
		// lengths, and Beside
		{obj(prot, `"aad":"`+b64(long(52000))+`"`, key, iv, sealed, tag), api.OK}, {obj(prot, `"aad":"`+b64(long(52468))+`"`, key, iv, sealed, tag), api.ErrLimit}, {obj(prot, `"aad":"`+b64(long(52467))+`"`, key, iv, sealed, tag), api.OK}, {obj(prot, `"aad":"`+b64(long(60000))+`"`, key, iv, sealed, `"tag":""`), api.ErrForm}, {obj(prot, key, iv, `"ciphertext":"`+b64(long(70001))+`"`, tag), api.ErrLimit},
		// what can't be told
		{obj(prot, `"unprotected":{"x":"`+ctrl(43000)+`"}`, key, iv, sealed, tag), api.OK}, {obj(prot, `"unprotected":{"x":"`+ctrl(43690)+`"}`, key, iv, sealed, tag), api.ErrLimit}, {obj(prot, `"header":{"x":"`+ctrl(43690)+`"}`, key, iv, sealed, tag), api.ErrLimit}, {obj(protEnc, `"recipients":[`+to+`,{"header":{"alg":"A128KW","x":"`+ctrl(43690)+`"},`+key+`}]`, iv, sealed, tag), api.ErrLimit}, {obj(prot, `"header":{"x":"`+ctrl(43690)+`"}`, key, iv, sealed, `"tag":""`), api.ErrForm},
	} {
		got, e := jwe.Read(c.s, most)
		if e != c.e || e != api.OK && !same(got, api.Envelope{}) {
			t.Errorf("%.200s: %v, not %v", c.s, e, c.e)
		}
	}
	// An envelope that is read, and would be too long, told: two headers, each of which can be.
	s := obj(prot, `"unprotected":{"x":"`+ctrl(30000)+`"}`, `"header":{"y":"`+ctrl(30000)+`"}`, key, iv, sealed, tag)
	got, e := jwe.Read(s, most)
	if e != api.OK {
		t.Fatal(e)
	}
	if s, e := jwe.Tell(got); s != "" || e != api.ErrArg {
		t.Error(len(s), e)
	}
}

// P24.1: limits.
func TestLimits(t *testing.T) {
	c := five(`{"alg":"PBES2-HS256+A128KW","enc":"A128GCM","p2s":"c2FsdHNhbHQ","p2c":10}`, long(24), iv12, "t", tag)
	o := `{"protected":"` + b64(`{"enc":"A128GCM","x":[[]]}`) + `","recipients":[{"header":{"alg":"dir"}}],"iv":"` + b64(iv12) + `","ciphertext":"","tag":"` + b64(tag) + `"}`
	for _, x := range []struct {
		s   string
		lim api.Limits
		e   api.Errno
	}{
		{c, api.Limits{Depth: 1, Items: 9, Bytes: len(c), Rounds: 10}, api.OK}, {c, api.Limits{Depth: 1, Items: 9, Bytes: len(c), Rounds: 9}, api.ErrLimit}, {c, api.Limits{Depth: 1, Items: 8, Bytes: len(c), Rounds: 10}, api.ErrLimit}, {c, api.Limits{Depth: 1, Items: 9, Bytes: len(c) - 1, Rounds: 10}, api.ErrLimit}, {"a.b.c", api.Limits{Depth: 1, Items: 9, Bytes: 4, Rounds: 10}, api.ErrLimit}, {"a.b.c", api.Limits{Depth: 1, Items: 9, Bytes: 5, Rounds: 10}, api.ErrForm}, {c, api.Limits{}, api.ErrArg}, {"", api.Limits{Depth: 33, Items: 1, Bytes: 1, Rounds: 1}, api.ErrArg},
		{o, api.Limits{Depth: 4, Items: 16, Bytes: len(o), Rounds: 1}, api.OK}, {o, api.Limits{Depth: 3, Items: 16, Bytes: len(o), Rounds: 1}, api.ErrLimit}, {o, api.Limits{Depth: 4, Items: 15, Bytes: len(o), Rounds: 1}, api.ErrLimit}, {o, api.Limits{Depth: 4, Items: 16, Bytes: len(o) - 1, Rounds: 1}, api.ErrLimit}, {"   {", api.Limits{Depth: 4, Items: 15, Bytes: 2, Rounds: 1}, api.ErrLimit}, {"    ", api.Limits{Depth: 4, Items: 15, Bytes: 2, Rounds: 1}, api.ErrLimit},
	} {
		if got, e := jwe.Read(x.s, x.lim); e != x.e {
			t.Errorf("%s within %v: %v, %v", x.s, x.lim, got, e)
		}
	}
}

// P24.1: what can't be told.
func TestTellFaults(t *testing.T) {
	compact := api.Envelope{Format: api.Compact, Alg: 1, Header: b64(`{"alg":"A128KW","enc":"A128GCM"}`), IV: iv12, Cipher: "t", Tag: tag, To: []api.Recipient{{Way: 2, Size: 16, Key: long(24)}}}
	flat, general := compact, compact
	flat.Format, flat.Loose, flat.Aad = api.Flat, "{}", "x"
	general.Format = api.General
	one := func(change func(to *api.Recipient)) func(e *api.Envelope) {
		return func(e *api.Envelope) {
			to := e.To[0]
			change(&to)
			e.To = []api.Recipient{to}
		}
	}
	for i, base := range []api.Envelope{compact, flat, general} {
		if _, e := jwe.Tell(base); e != api.OK {
			t.Fatal(i, e)
		}
		for j, change := range []func(e *api.Envelope){
			func(e *api.Envelope) { *e = api.Envelope{} }, func(e *api.Envelope) { e.Format = 1 }, func(e *api.Envelope) { e.Format = 5 }, func(e *api.Envelope) { e.Format = 0 }, func(e *api.Envelope) { e.Format = -1 }, func(e *api.Envelope) { e.Alg = 2 }, func(e *api.Envelope) { e.Alg = 0 }, func(e *api.Envelope) { e.To = nil }, func(e *api.Envelope) { e.To = make([]api.Recipient, 2) }, func(e *api.Envelope) { e.To = make([]api.Recipient, 9) }, func(e *api.Envelope) { e.To = make([]api.Recipient, 5000) },
			func(e *api.Envelope) { e.Header = "" }, func(e *api.Envelope) { e.Header += "." }, func(e *api.Envelope) { e.Header += "=" }, func(e *api.Envelope) { e.Header = "\xff" }, func(e *api.Envelope) { e.Loose = "x" }, func(e *api.Envelope) { e.Loose = "{ }" }, func(e *api.Envelope) { e.Loose = "[]" }, func(e *api.Envelope) { e.Loose = `{"crit":1}` }, func(e *api.Envelope) { e.Loose = `{"a":"\n"}` }, func(e *api.Envelope) { e.Loose = `{"a":` + strings.Repeat("[", 31) + strings.Repeat("]", 31) + `}` }, func(e *api.Envelope) { e.IV = "" }, func(e *api.Envelope) { e.Cipher = long(70001) }, func(e *api.Envelope) { e.Tag = tag[1:] }, func(e *api.Envelope) { e.Aad = long(60000) },
			one(func(to *api.Recipient) { to.Way = 1 }), one(func(to *api.Recipient) { to.Way = 0 }), one(func(to *api.Recipient) { to.Size = 24 }), one(func(to *api.Recipient) { to.Kind = 256 }), one(func(to *api.Recipient) { to.Name = "k" }), one(func(to *api.Recipient) { to.Key = "" }), one(func(to *api.Recipient) { to.Salt = "x" }), one(func(to *api.Recipient) { to.Rounds = 1 }), one(func(to *api.Recipient) { to.IV = "x" }), one(func(to *api.Recipient) { to.Loose = "x" }), one(func(to *api.Recipient) { to.Loose = "{} " }), one(func(to *api.Recipient) { to.Loose = `{"alg":"A128KW"}` }),
		} {
			e := base
			change(&e)
			if s, no := jwe.Tell(e); s != "" || no != api.ErrArg {
				t.Errorf("%d %d: %.300s, %v", i, j, s, no)
			}
		}
	}
	compact.Aad = "x"
	if s, no := jwe.Tell(compact); s != "" || no != api.ErrArg {
		t.Error(s, no)
	}
	compact.Aad, compact.Loose = "", "{}"
	if s, no := jwe.Tell(compact); s != "" || no != api.ErrArg {
		t.Error(s, no)
	}
	flat.To = []api.Recipient{flat.To[0], flat.To[0]}
	if s, no := jwe.Tell(flat); s != "" || no != api.ErrArg {
		t.Error(s, no)
	}
}

// P24.2
func TestBeside(t *testing.T) {
	for _, c := range [][3]string{{"", "", ""}, {"abc", "", "abc"}, {"abc", "a", "abc.YQ"}, {"", "\xff", "._w"}, {"x", long(100), "x." + b64(long(100))}} {
		if got := jwe.Beside(api.Envelope{Header: c[0], Aad: c[1], Loose: "y", Cipher: "z"}); got != c[2] {
			t.Error(c, got)
		}
	}
}

// P24.3
func TestHeadFaults(t *testing.T) {
	for _, c := range []struct {
		alg int
		to  api.Recipient
		e   api.Errno
	}{
		{0, api.Recipient{Way: 1}, api.ErrKind}, {7, api.Recipient{Way: 1}, api.ErrKind}, {-1, api.Recipient{Way: 1}, api.ErrKind}, {201, api.Recipient{Way: 1}, api.ErrKind}, {10, api.Recipient{Way: 1, Name: "\xff"}, api.ErrKind}, {1, api.Recipient{}, api.ErrKind}, {1, api.Recipient{Way: 4}, api.ErrKind}, {1, api.Recipient{Way: -1, Name: long(129)}, api.ErrKind},
		{1, api.Recipient{Way: 2}, api.ErrKind}, {1, api.Recipient{Way: 2, Size: 17, Name: "\xff"}, api.ErrKind}, {1, api.Recipient{Way: 2, Size: 16}, api.OK}, {1, api.Recipient{Way: 3, Size: 16}, api.ErrKind}, {1, api.Recipient{Way: 3, Kind: 255, Salt: long(1001)}, api.ErrKind}, {1, api.Recipient{Way: 3, Kind: 256}, api.OK}, {1, api.Recipient{Way: 1, Size: 5, Kind: 9}, api.OK},
		{1, api.Recipient{Way: 1, Name: "\xff"}, api.ErrArg}, {1, api.Recipient{Way: 2, Size: 16, Name: long(129)}, api.ErrArg}, {1, api.Recipient{Way: 2, Size: 16, Name: long(128)}, api.OK}, {1, api.Recipient{Way: 3, Kind: 512, Salt: long(1001)}, api.ErrArg}, {1, api.Recipient{Way: 3, Kind: 512, Salt: long(1000), Rounds: -5}, api.OK}, {1, api.Recipient{Way: 1, Salt: long(1001)}, api.ErrArg}, {1, api.Recipient{Way: 3, Kind: 384, Name: "\xed\xa0\x80"}, api.ErrArg},
	} {
		head, e := jwe.Head(c.alg, c.to)
		shared, own, e2 := jwe.Heads(c.alg, c.to)
		if e != c.e || e2 != c.e || e != api.OK && head+shared+own != "" || e == api.OK && (head == "" || shared == "" || own == "") {
			t.Errorf("%d %v: %s, %v, %s, %s, %v", c.alg, c.to, head, e, shared, own, e2)
		}
	}
	_, own, _ := jwe.Heads(1, api.Recipient{Way: 3, Kind: 256, Salt: "", Rounds: -12})
	if own != `{"alg":"PBES2-HS256+A128KW","p2s":"","p2c":-12}` {
		t.Error(own)
	}
}

// P24.4: texts with some bytes other ones.
func TestChanged(t *testing.T) {
	r := rand.New(rand.NewSource(1))
	key := b64(long(24))
	texts := []string{
		five(`{"alg":"A128KW","enc":"A128GCM","kid":"k"}`, long(24), iv12, "t", tag),
		`{"protected":"` + b64(`{"enc":"A128GCM"}`) + `","unprotected":{"a":[1,null,true,"x"]},"header":{"alg":"A128KW","kid":"\u00e9"},"encrypted_key":"` + key + `","aad":"YQ","iv":"` + b64(iv12) + `","ciphertext":"dA","tag":"` + b64(tag) + `"}`,
		`{"protected":"` + b64(`{"enc":"A128GCM"}`) + `","recipients":[{"header":{"alg":"A128KW"},"encrypted_key":"` + key + `"},{"header":{"alg":"PBES2-HS256+A128KW","p2s":"c2FsdHNhbHQ","p2c":12},"encrypted_key":"` + key + `"}],"iv":"` + b64(iv12) + `","ciphertext":"","tag":"` + b64(tag) + `"}`,
	}
	found := map[api.Errno]int{}
	for range 30000 {
		b := []byte(texts[r.Intn(3)])
		for range r.Intn(3) {
			i := r.Intn(len(b))
			switch r.Intn(4) {
			case 0:
				b[i] = byte(r.Intn(256))
			case 1:
				b[i] = `{}[]",:.\A0aeyk -_n1`[r.Intn(20)]
			case 2:
				b = append(b[:i], b[i+1:]...)
			case 3:
				b = append(b[:i], append([]byte{`{}[]",: .\A0`[r.Intn(12)]}, b[i:]...)...)
			}
		}
		got, e := jwe.Read(string(b), most)
		found[e]++
		if e != api.OK {
			if !same(got, api.Envelope{}) || e != api.ErrForm && e != api.ErrKind && e != api.ErrLimit {
				t.Fatalf("%s: %v, %v", b, got, e)
			}
			continue
		}
		told, e := jwe.Tell(got)
		if e != api.OK || got.Format == api.Compact && told != string(b) {
			t.Fatalf("%s: %s, %v", b, told, e)
		}
		again, e := jwe.Read(told, most)
		if e != api.OK || !same(again, got) {
			t.Fatalf("%s: %v, %v", b, again, e)
		}
		if back, e := jwe.Tell(again); e != api.OK || back != told {
			t.Fatalf("%s: %s, %v", b, back, e)
		}
	}
	if found[api.OK] < 2000 || found[api.ErrForm] < 2000 || found[api.ErrKind] < 200 {
		t.Error(found)
	}
}

// R4: two lists of one answer, and two answers, share nothing.
func TestOwn(t *testing.T) {
	s := five(`{"alg":"A128KW","enc":"A128GCM"}`, long(24), iv12, "t", tag)
	a, _ := jwe.Read(s, most)
	b, _ := jwe.Read(s, most)
	a.To[0].Name = "changed"
	_ = append(a.To, api.Recipient{})
	if b.To[0].Name != "" {
		t.Error("shared")
	}
}
