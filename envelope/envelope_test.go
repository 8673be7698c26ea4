package envelope_test

import (
	"fmt"
	"math/rand"
	"reflect"
	"strings"
	"testing"

	"pyxis/api"
	"pyxis/ccm"
	"pyxis/cms"
	"pyxis/cose"
	"pyxis/envelope"
	"pyxis/gcm"
	"pyxis/jwe"
	"pyxis/pbkdf"
	"pyxis/recip"
	"pyxis/ring"
	"pyxis/suite"
	"pyxis/wrap"
)

func long(n int) string { return strings.Repeat("x", n) }

func same(a, b api.Envelope) bool {
	if len(a.To) == 0 && len(b.To) == 0 {
		a.To, b.To = nil, nil
	}
	return reflect.DeepEqual(a, b)
}

// keySizes: of each format and cipher the bytes of its key, and of its iv.
func sizes(format, alg int) (int, int) {
	if format == api.CMS {
		return map[int]int{1: 16, 2: 24, 3: 32, 201: 16, 202: 24, 203: 32}[alg], 12
	}
	row, _ := suite.Of(alg)
	return row.Key, row.IV
}

// algs are the ciphers that a format has.
func algs(format int) []int {
	switch format {
	case api.CMS:
		return []int{1, 2, 3, 201, 202, 203}
	case api.Encrypt0:
		return []int{1, 2, 3, 10, 11, 12, 13, 30, 31, 32, 33}
	case api.Mac0:
		return []int{104, 105, 106, 107, 114, 115, 125, 126}
	}
	return []int{1, 2, 3, 4, 5, 6}
}

// expected is what the chapters' equations make of a plan that may be; secrets are the ring's keys of its recipients.
func expected(t *testing.T, p api.Plan, secrets []string, aad, text string) string {
	t.Helper()
	must := func(s string, e api.Errno) string {
		if e != api.OK {
			t.Fatal(e)
		}
		return s
	}
	e := api.Envelope{Format: p.Format, Alg: p.Alg, IV: p.IV}
	key := p.Key
	for i, to := range p.To {
		out := api.Recipient{Way: to.Way, Name: to.Name}
		switch {
		case to.Way == api.Direct:
			key = secrets[i]
		case to.Way == api.Wrapped:
			out.Size = to.Size
			out.Key = must(wrap.Wrap(secrets[i], key))
		case p.Format == api.CMS:
			out = api.Recipient{Way: 3, Size: to.Size, Kind: to.Kind, Salt: to.Salt, Rounds: to.Rounds, IV: to.IV}
			out.Key = must(recip.Lock(must(pbkdf.Key(to.Kind, secrets[i], to.Salt, to.Rounds, to.Size)), to.IV, key, p.Fill))
		default:
			out.Kind, out.Salt, out.Rounds = to.Kind, to.Salt, to.Rounds
			out.Size = map[int]int{256: 16, 384: 24, 512: 32}[to.Kind]
			out.Key = must(wrap.Wrap(must(recip.Derive(must(recip.Name(to.Kind)), secrets[i], to.Salt, to.Rounds)), key))
		}
		if p.Format == api.General {
			_, out.Loose, _ = jwe.Heads(p.Alg, to)
		}
		e.To = append(e.To, out)
	}
	no := api.OK
	switch p.Format {
	case api.CMS:
		e.To, e.Header = cms.Sorted(e.To), cms.Attributes(aad)
		size := p.Tag
		if size == 0 {
			size = 12
		}
		seal := gcm.Seal
		if p.Alg > 200 {
			seal = ccm.Seal
		}
		out := must(seal(key, p.IV, e.Header, text, size))
		e.Cipher, e.Tag = out[:len(text)], out[len(text):]
		return must(cms.Tell(e))
	case api.Encrypt0, api.Mac0:
		e.Header, e.Loose, no = cose.Heads(p.Alg, p.To[0].Name, p.IV)
		must("", no)
		if p.Format == api.Mac0 {
			e.Cipher = text
			e.Tag = must(suite.Mac(p.Alg, key, cose.Structure(e, aad)))
		} else {
			e.Cipher, e.Tag, no = suite.Seal(p.Alg, key, p.IV, cose.Structure(e, aad), text)
			must("", no)
		}
		return must(cose.Tell(e))
	}
	e.Aad = aad
	if p.Format == api.General {
		e.Header, _, no = jwe.Heads(p.Alg, p.To[0])
	} else {
		e.Header, no = jwe.Head(p.Alg, p.To[0])
	}
	must("", no)
	e.Cipher, e.Tag, no = suite.Seal(p.Alg, key, p.IV, jwe.Beside(e), text)
	must("", no)
	return must(jwe.Tell(e))
}

// names of the keys in keyring, by their lengths.
var named = map[int]string{16: "k16", 24: "k24", 32: "k32", 48: "k48", 64: "k64"}

func keyring(t testing.TB) *ring.Ring {
	l := []string{"password", "a password"}
	for n, name := range named {
		l = append(l, name, strings.Repeat(string(rune('a'+n/8)), n))
	}
	return rings(t, l...)
}

func secret(n int) string { return strings.Repeat(string(rune('a'+n/8)), n) }

// plans are some of a format and a cipher, with their recipients' keys in keyring.
func plans(r *rand.Rand, format, alg int) ([]api.Plan, [][]string) {
	size, iv := sizes(format, alg)
	base := api.Plan{Format: format, Alg: alg, Key: secret(size)[1:] + "k", IV: long(iv)}
	direct := base
	direct.Key, direct.To = "", []api.Recipient{{Way: api.Direct, Name: named[size]}}
	if format == api.Encrypt0 || format == api.Mac0 {
		return []api.Plan{direct}, [][]string{{secret(size)}}
	}
	kind := []int{256, 384, 512}[r.Intn(3)]
	n := 16 + 8*r.Intn(3)
	wrapped := api.Recipient{Way: api.Wrapped, Size: n, Name: named[n]}
	pass := api.Recipient{Way: api.Password, Kind: kind, Name: "password", Salt: long(8 + r.Intn(20)), Rounds: 1 + r.Intn(9)}
	if format == api.CMS {
		base.Tag = []int{0, 12, 14, 16}[r.Intn(4)]
		base.IV = long(7 + r.Intn(7))
		k, _ := recip.Fill(size)
		base.Fill = strings.Repeat("f", k)
		pass.Name, pass.Size, pass.IV = "", 16+8*r.Intn(3), long(16)
	}
	one, two, three := base, base, base
	one.To = []api.Recipient{wrapped}
	two.To = []api.Recipient{pass}
	three.To = []api.Recipient{pass, wrapped, wrapped}
	all, secrets := []api.Plan{one, two}, [][]string{{secret(n)}, {"a password"}}
	if format != api.CMS {
		all, secrets = append(all, direct), append(secrets, []string{secret(size)})
	}
	if format == api.CMS || format == api.General {
		all, secrets = append(all, three), append(secrets, []string{"a password", secret(n), secret(n)})
	}
	return all, secrets
}

// P26.1 to P26.5, W1: all formats and ciphers, in all ways.
func TestSealed(t *testing.T) {
	r := rand.New(rand.NewSource(1))
	keys := keyring(t)
	for format := api.CMS; format <= api.Mac0; format++ {
		for _, alg := range algs(format) {
			all, secrets := plans(r, format, alg)
			for i, p := range all {
				for _, aad := range []string{"", "beside"} {
					if aad != "" && format == api.Compact {
						continue
					}
					for _, text := range []string{"", "a text of some bytes"} {
						want := expected(t, p, secrets[i], aad, text)
						got, e := envelope.Seal(p, keys, aad, text, most)
						if e != api.OK || got != want {
							t.Fatalf("%d %d %d: %x, %v, not %x", format, alg, i, got, e, want)
						}
						opens(t, got, keys, aad, text)
						others(t, p, got, keys, aad, text)
					}
				}
			}
		}
	}
}

// opens asks of a message what W1, W3 and P26.1 say of it.
func opens(t *testing.T, s string, keys *ring.Ring, aad, text string) {
	t.Helper()
	if got, e := envelope.Open(s, keys, aad, most); got != text || e != api.OK {
		t.Fatalf("%x: %q, %v", s, got, e)
	}
	e, no := envelope.Inspect(s, most)
	told, no2 := envelope.Reserialize(s, most)
	if no != api.OK || no2 != api.OK || told != s {
		t.Fatalf("%x: %v, %v, %x", s, no, no2, told)
	}
	layers := 0
	for _, read := range []func(string, api.Limits) (api.Envelope, api.Errno){cms.Read, jwe.Read, cose.Read} {
		if got, no := read(s, most); no == api.OK {
			layers++
			if !same(got, e) {
				t.Fatalf("%x: %v, not %v", s, got, e)
			}
		}
	}
	if layers != 1 {
		t.Fatalf("%x is of %d layers", s, layers)
	}
}

// others asks with other texts beside, other rings, and in pieces.
func others(t *testing.T, p api.Plan, s string, keys *ring.Ring, aad, text string) {
	t.Helper()
	for _, other := range []string{"", "Beside", "beside "} {
		if other == aad {
			continue
		}
		if got, e := envelope.Open(s, keys, other, most); got != "" || e != api.ErrAuth {
			t.Fatalf("%x beside %q: %q, %v", s, other, got, e)
		}
	}
	if got, e := envelope.Open(s, keys, long(api.MaxText+1), most); got != "" || e != api.ErrLimit {
		t.Fatalf("%q, %v", got, e)
	}
	for _, none := range []*ring.Ring{nil, {}, rings(t), rings(t, "other", "x", "another", "y")} {
		if got, e := envelope.Open(s, none, aad, most); got != "" || e != api.ErrNone {
			t.Fatalf("%x: %q, %v", s, got, e)
		}
	}
	x, _ := envelope.New(most)
	n := len(s) / 3
	for _, piece := range []string{"", s[:1], s[1:n], s[n:]} {
		if e := x.Write(piece); e != api.OK {
			t.Fatalf("%x: %v", s, e)
		}
	}
	if got, e := x.Open(keys, aad); got != text || e != api.OK {
		t.Fatalf("%x: %q, %v", s, got, e)
	}
	for _, cut := range []string{s[:len(s)-1], s[:n], s[:1], s + "0", s + "\x00"} {
		if got, e := envelope.Open(cut, keys, aad, most); got != "" || e != api.ErrForm {
			t.Fatalf("%x: %q, %v", cut, got, e)
		}
	}
}

// The format is told by the first byte alone.
func TestFirstByte(t *testing.T) {
	lim := api.Limits{Depth: 9, Items: 9, Bytes: 2, Rounds: 1}
	for s, want := range map[string]api.Errno{"\x80\x80\x80": api.ErrForm, "\x7f\x80\x80": api.ErrLimit, "\xe0..": api.ErrKind, "\x30\x1f\x1f": api.ErrLimit, "\x30\x80\x80": api.ErrForm, "\x2f\x80\x80": api.ErrLimit, "\x31\x80\x80": api.ErrLimit, "x": api.ErrForm} {
		if got, e := envelope.Inspect(s, lim); e != want || !same(got, api.Envelope{}) {
			t.Errorf("%x: %v, %v", s, got, e)
		}
	}
}

// Eight recipients are as many as may be.
func TestEight(t *testing.T) {
	keys := keyring(t)
	for _, format := range []int{1, 4} {
		p := api.Plan{Format: format, Alg: 1, Key: secret(16), IV: long(12)}
		for range 8 {
			p.To = append(p.To, api.Recipient{Way: 2, Size: 16, Name: "k16"})
		}
		s, e := envelope.Seal(p, keys, "", "text", most)
		if e != api.OK {
			t.Fatal(format, e)
		}
		if got, e := envelope.Open(s, keys, "", most); got != "text" || e != api.OK {
			t.Error(format, got, e)
		}
	}
}

// W6: each recipient's key alone opens it; other keys and their order change nothing.
func TestKeys(t *testing.T) {
	for _, format := range []int{api.CMS, api.General} {
		to := []api.Recipient{{Way: 2, Size: 16, Name: "a"}, {Way: 2, Size: 32, Name: "b"}, {Way: 3, Kind: 256, Name: "password", Salt: long(8), Rounds: 2, Size: 16, IV: long(16)}}
		if format == api.CMS {
			to[2].Name = ""
		}
		p := api.Plan{Format: format, Alg: 1, Key: secret(16), IV: long(12), To: to, Fill: long(12)}
		all := []string{"a", secret(16), "b", secret(32), "password", "p"}
		want, e := envelope.Seal(p, rings(t, all...), "x", "text", most)
		if e != api.OK {
			t.Fatal(e)
		}
		more := []string{"z", "y", "password", "p", "b", secret(32), "", ""}
		more[6], more[7] = "a", secret(16)
		if got, e := envelope.Seal(p, rings(t, more...), "x", "text", most); got != want || e != api.OK {
			t.Errorf("%d: %x, %v", format, got, e)
		}
		for i := 0; i < len(all); i += 2 {
			for _, l := range [][]string{{all[i], all[i+1]}, {"0", "x", all[i], all[i+1]}, {all[i], all[i+1], "~", "x"}} {
				if got, e := envelope.Open(want, rings(t, l...), "x", most); got != "text" || e != api.OK {
					t.Errorf("%d %s: %q, %v", format, all[i], got, e)
				}
			}
		}
		// A key that fits and is another one is asked, and no other recipient then.
		if got, e := envelope.Open(want, rings(t, "a", long(16), "b", secret(32), "password", "p"), "x", most); format == api.General && (got != "" || e != api.ErrAuth) {
			t.Errorf("%d: %q, %v", format, got, e)
		}
		// A key of another length doesn't fit.
		if got, e := envelope.Open(want, rings(t, "a", long(24), "b", secret(32), "password", "p"), "x", most); got != "text" || e != api.OK {
			t.Errorf("%d: %q, %v", format, got, e)
		}
	}
}

// The key of a recipient without a name is the ring's only one.
func TestOnly(t *testing.T) {
	for _, format := range []int{api.Compact, api.Flat, api.General, api.Encrypt0, api.Mac0} {
		alg, iv := 1, 12
		if format == api.Mac0 {
			alg, iv = 114, 0
		}
		p := api.Plan{Format: format, Alg: alg, To: []api.Recipient{{Way: 1}}, IV: long(iv)}
		one := rings(t, "any", secret(16))
		s, e := envelope.Seal(p, one, "", "text", most)
		if e != api.OK || one.Uses("any") != 1 {
			t.Fatal(format, e)
		}
		if got, e := envelope.Open(s, one, "", most); got != "text" || e != api.OK || one.Uses("any") != 2 {
			t.Error(format, got, e)
		}
		two := rings(t, "any", secret(16), "other", secret(16))
		if got, e := envelope.Open(s, two, "", most); got != "" || e != api.ErrNone {
			t.Error(format, got, e)
		}
		if got, e := envelope.Seal(p, two, "", "text", most); got != "" || e != api.ErrNone {
			t.Error(format, got, e)
		}
		if two.Uses("any")+two.Uses("other") != 0 {
			t.Error(format, "uses")
		}
	}
}

// P26.2: how often the ring is asked.
func TestUses(t *testing.T) {
	to := []api.Recipient{{Way: 2, Size: 16, Name: "a"}, {Way: 2, Size: 32, Name: "b"}, {Way: 2, Size: 24, Name: "c"}, {Way: 2, Size: 16, Name: "a"}}
	p := api.Plan{Format: api.General, Alg: 1, Key: secret(16), IV: long(12), To: to}
	uses := func(r *ring.Ring) string { return fmt.Sprint(r.Uses("a"), r.Uses("b"), r.Uses("c")) }
	r := rings(t, "a", long(16), "b", long(32), "c", long(24))
	s, e := envelope.Seal(p, r, "", "", most)
	if e != api.OK || uses(r) != "2 1 1" {
		t.Fatal(e, uses(r))
	}
	for i, c := range []struct {
		r    *ring.Ring
		aad  string
		lim  api.Limits
		e    api.Errno
		uses string
	}{
		{rings(t, "a", long(16), "b", long(32), "c", long(24)), "", most, api.OK, "1 0 0"}, {rings(t, "a", long(15), "b", long(32), "c", long(24)), "", most, api.OK, "1 1 0"}, {rings(t, "c", long(24)), "", most, api.OK, "0 0 1"}, {rings(t, "a", long(17), "b", long(31)), "", most, api.ErrNone, "2 1 0"}, {rings(t, "a", "0123456789abcdef", "b", long(32)), "", most, api.ErrAuth, "1 0 0"}, {rings(t, "a", long(16)), "x", most, api.ErrAuth, "1 0 0"},
		{rings(t, "a", long(16)), long(70001), most, api.ErrLimit, "0 0 0"}, {rings(t, "a", long(16)), "", api.Limits{Depth: 1, Items: 1, Bytes: 1, Rounds: 1}, api.ErrLimit, "0 0 0"}, {rings(t, "a", long(16)), "", api.Limits{}, api.ErrArg, "0 0 0"},
	} {
		if _, e := envelope.Open(s, c.r, c.aad, c.lim); e != c.e || uses(c.r) != c.uses {
			t.Errorf("%d: %v, %s", i, e, uses(c.r))
		}
		envelope.Inspect(s, c.lim)
		envelope.Reserialize(s, c.lim)
		if uses(c.r) != c.uses {
			t.Error(i, "asked by others")
		}
	}
	for i, c := range []struct {
		change func(p *api.Plan)
		r      *ring.Ring
		lim    api.Limits
		e      api.Errno
		uses   string
	}{
		{func(p *api.Plan) {}, rings(t, "a", long(16), "b", long(31), "c", long(24)), most, api.ErrNone, "1 1 0"}, {func(p *api.Plan) {}, rings(t, "b", long(32), "c", long(24)), most, api.ErrNone, "0 0 0"}, {func(p *api.Plan) { p.To[1].Size = 31 }, rings(t, "a", long(16), "b", long(31), "c", long(24)), most, api.ErrKey, "1 1 0"}, {func(p *api.Plan) { p.Key = "" }, rings(t, "a", long(16), "b", long(32), "c", long(24)), most, api.ErrKey, "2 1 1"}, {func(p *api.Plan) { p.Tag = 5 }, rings(t, "a", long(16), "b", long(32), "c", long(24)), most, api.ErrTag, "2 1 1"},
		{func(p *api.Plan) {}, rings(t, "a", long(16), "b", long(32), "c", long(24)), api.Limits{Depth: 1, Items: 1, Bytes: 1, Rounds: 1}, api.ErrLimit, "2 1 1"}, {func(p *api.Plan) {}, rings(t, "a", long(16), "b", long(32), "c", long(24)), api.Limits{}, api.ErrArg, "0 0 0"}, {func(p *api.Plan) { p.Alg = 7 }, rings(t, "a", long(16)), most, api.ErrKind, "0 0 0"}, {func(p *api.Plan) { p.Format = api.Flat }, rings(t, "a", long(16)), most, api.ErrArg, "0 0 0"},
	} {
		q := p
		q.To = append([]api.Recipient{}, p.To...)
		c.change(&q)
		if _, e := envelope.Seal(q, c.r, "", "", c.lim); e != c.e || uses(c.r) != c.uses {
			t.Errorf("%d: %v, %s", i, e, uses(c.r))
		}
	}
}

// asked is what is handed to Seal.
type asked struct {
	p         api.Plan
	r         *ring.Ring
	aad, text string
	lim       api.Limits
}

// breaks is a change that is answered with an error.
type breaks struct {
	name   string
	e      api.Errno
	change func(x *asked)
}

// first asks of all pairs of changes, in the order of P26.3, that the first one is told. Changes of one step (a name with the same word ahead of a blank) aren't paired.
func first(t *testing.T, base func() asked, l []breaks) {
	t.Helper()
	x := base()
	if s, e := envelope.Seal(x.p, x.r, x.aad, x.text, x.lim); e != api.OK || s == "" {
		t.Fatal(e)
	}
	for i, a := range l {
		x := base()
		a.change(&x)
		if s, e := envelope.Seal(x.p, x.r, x.aad, x.text, x.lim); e != a.e || s != "" {
			t.Errorf("%s: %v, not %v", a.name, e, a.e)
		}
		for _, b := range l[i+1:] {
			if strings.Fields(a.name)[0] == strings.Fields(b.name)[0] {
				continue
			}
			x := base()
			b.change(&x)
			a.change(&x)
			if s, e := envelope.Seal(x.p, x.r, x.aad, x.text, x.lim); e != a.e || s != "" {
				t.Errorf("%s, %s: %v, not %v", a.name, b.name, e, a.e)
			}
		}
	}
}

// P26.3: of a tree.
func TestTreeErrors(t *testing.T) {
	base := func() asked {
		return asked{
			p:   api.Plan{Format: 1, Alg: 201, Key: secret(16), IV: long(13), Fill: long(12), To: []api.Recipient{{Way: 2, Size: 24, Name: "a"}, {Way: 3, Kind: 256, Salt: long(8), Rounds: 5, Size: 32, IV: long(16)}}},
			r:   rings(t, "a", long(24), "password", "p"),
			lim: most,
		}
	}
	first(t, base, []breaks{
		{"limits", api.ErrArg, func(x *asked) { x.lim.Depth = 0 }},
		{"kind of format 0", api.ErrKind, func(x *asked) { x.p.Format = 0 }}, {"kind of format 7", api.ErrKind, func(x *asked) { x.p.Format = 7 }}, {"kind of cipher 4", api.ErrKind, func(x *asked) { x.p.Alg = 4 }}, {"kind of cipher 204", api.ErrKind, func(x *asked) { x.p.Alg = 204 }}, {"kind of cipher 0", api.ErrKind, func(x *asked) { x.p.Alg = 0 }},
		{"long text", api.ErrLimit, func(x *asked) { x.text = long(70001) }}, {"long aad", api.ErrLimit, func(x *asked) { x.aad = long(70001) }}, {"long text for 13", api.ErrLimit, func(x *asked) { x.p.IV, x.text = long(13), long(65536) }},
		{"recipients: none", api.ErrArg, func(x *asked) { x.p.To = nil }}, {"recipients: nine", api.ErrArg, func(x *asked) { x.p.To = make([]api.Recipient, 9) }}, {"recipients: nine right ones", api.ErrArg, func(x *asked) {
			x.p.To = nil
			for range 9 {
				x.p.To = append(x.p.To, api.Recipient{Way: 2, Size: 24, Name: "a"})
			}
		}}, {"recipients: direct", api.ErrArg, func(x *asked) { x.p.To[1].Way = 1 }}, {"recipients: no way", api.ErrArg, func(x *asked) { x.p.To[0].Way = 0 }}, {"recipients: way 4", api.ErrArg, func(x *asked) { x.p.To[1].Way = 4 }}, {"recipients: wrapped without a name", api.ErrArg, func(x *asked) { x.p.To[0].Name = "" }}, {"recipients: a password with a name", api.ErrArg, func(x *asked) { x.p.To[1].Name = "password" }},
		{"ring", api.ErrNone, func(x *asked) { x.r = rings(t, "a", long(23), "password", "p") }}, {"ring: no password", api.ErrNone, func(x *asked) { x.r = rings(t, "a", long(24)) }}, {"ring: nil", api.ErrNone, func(x *asked) { x.r = nil }}, {"ring: another size", api.ErrNone, func(x *asked) { x.p.To[0].Size = 16 }}, {"ring: a size that is none", api.ErrKey, func(x *asked) { x.p.To[0].Size, x.r = 17, rings(t, "a", long(17)) }},
		{"key", api.ErrKey, func(x *asked) { x.p.Key = long(24) }}, {"key: none", api.ErrKey, func(x *asked) { x.p.Key = "" }},
		{"iv", api.ErrIV, func(x *asked) { x.p.IV = long(14) }}, {"iv: short", api.ErrIV, func(x *asked) { x.p.IV = long(6) }},
		{"tag", api.ErrTag, func(x *asked) { x.p.Tag = 13 }}, {"tag of 2", api.ErrTag, func(x *asked) { x.p.Tag = 2 }}, {"tag of 18", api.ErrTag, func(x *asked) { x.p.Tag = 18 }}, {"tag below 0", api.ErrTag, func(x *asked) { x.p.Tag = -4 }},
		{"password's kind", api.ErrKind, func(x *asked) { x.p.To[1].Kind = 1 }},
		{"salt", api.ErrIV, func(x *asked) { x.p.To[1].Salt = long(7) }}, {"salt: long", api.ErrIV, func(x *asked) { x.p.To[1].Salt = long(1001) }},
		{"rounds", api.ErrArg, func(x *asked) { x.p.To[1].Rounds = 0 }}, {"rounds: many", api.ErrRounds, func(x *asked) { x.p.To[1].Rounds = 4097 }}, {"rounds: above the limit", api.ErrRounds, func(x *asked) { x.p.To[1].Rounds, x.lim.Rounds = 10, 9 }},
		{"password's size", api.ErrKey, func(x *asked) { x.p.To[1].Size = 20 }},
		{"password's-iv", api.ErrIV, func(x *asked) { x.p.To[1].IV = long(15) }},
		{"fill", api.ErrArg, func(x *asked) { x.p.Fill = long(11) }}, {"fill: none", api.ErrArg, func(x *asked) { x.p.Fill = "" }},
		{"bytes", api.ErrLimit, func(x *asked) { x.lim.Bytes = 100 }}, {"bytes: items", api.ErrLimit, func(x *asked) { x.lim.Items = 10 }}, {"bytes: depth", api.ErrLimit, func(x *asked) { x.lim.Depth = 5 }},
	})
	// Two Passwords: the first one's errors come ahead of all of the second one's.
	x := base()
	x.p.To = []api.Recipient{x.p.To[1], x.p.To[1]}
	x.p.To[0].IV, x.p.To[1].Kind = "", 0
	if _, e := envelope.Seal(x.p, x.r, "", "", most); e != api.ErrIV {
		t.Error(e)
	}
	for _, c := range []struct {
		alg, iv, tag, text int
		e                  api.Errno
	}{
		{1, 1, 0, 0, api.OK}, {2, 1024, 12, 0, api.OK}, {3, 13, 16, 70000, api.OK}, {1, 0, 0, 0, api.ErrIV}, {1, 1025, 0, 0, api.ErrIV}, {1, 12, 13, 0, api.OK}, {1, 12, 11, 0, api.ErrTag}, {1, 12, 17, 0, api.ErrTag}, {1, 12, 4, 0, api.ErrTag},
		{201, 7, 4, 0, api.OK}, {202, 12, 16, 70000, api.OK}, {203, 13, 14, 65535, api.OK}, {203, 13, 14, 65536, api.ErrLimit}, {201, 12, 12, 65536, api.OK}, {201, 12, 6, 0, api.OK}, {201, 12, 8, 0, api.OK}, {201, 12, 10, 0, api.OK}, {201, 12, 5, 0, api.ErrTag},
	} {
		size, _ := sizes(1, c.alg)
		p := api.Plan{Format: 1, Alg: c.alg, Key: secret(size), IV: long(c.iv), Tag: c.tag, To: []api.Recipient{{Way: 2, Size: 24, Name: "a"}}}
		r := rings(t, "a", long(24))
		s, e := envelope.Seal(p, r, "", long(c.text), most)
		if e != c.e {
			t.Error(c, e)
		}
		if got, e := envelope.Open(s, r, "", most); c.e == api.OK && (e != api.OK || got != long(c.text)) {
			t.Error(c, len(got), e)
		}
	}
}

// P26.3: of texts.
func TestTextErrors(t *testing.T) {
	general := func() asked {
		return asked{
			p:   api.Plan{Format: 4, Alg: 4, Key: secret(32), IV: long(16), To: []api.Recipient{{Way: 2, Size: 24, Name: "a"}, {Way: 3, Kind: 512, Salt: long(1000), Rounds: 5, Name: "p"}}},
			r:   rings(t, "a", long(24), "p", "p", "\xff", long(24)),
			aad: "beside", lim: most,
		}
	}
	l := []breaks{
		{"limits", api.ErrArg, func(x *asked) { x.lim.Rounds = 0 }},
		{"kind of cipher 7", api.ErrKind, func(x *asked) { x.p.Alg = 7 }}, {"kind of cipher 10", api.ErrKind, func(x *asked) { x.p.Alg = 10 }}, {"kind of cipher 105", api.ErrKind, func(x *asked) { x.p.Alg = 105 }}, {"kind of cipher 201", api.ErrKind, func(x *asked) { x.p.Alg = 201 }}, {"kind of cipher -1", api.ErrKind, func(x *asked) { x.p.Alg = -1 }},
		{"long text", api.ErrLimit, func(x *asked) { x.text = long(70001) }}, {"long aad", api.ErrLimit, func(x *asked) { x.aad = long(70001) }},
		{"recipients: none", api.ErrArg, func(x *asked) { x.p.To = nil }}, {"recipients: nine", api.ErrArg, func(x *asked) {
			x.p.To = nil
			for range 9 {
				x.p.To = append(x.p.To, api.Recipient{Way: 2, Size: 24, Name: "a"})
			}
		}}, {"recipients: direct and another", api.ErrArg, func(x *asked) { x.p.To[1] = api.Recipient{Way: 1, Name: "a"} }}, {"recipients: no way", api.ErrArg, func(x *asked) { x.p.To[1].Way = 0 }}, {"recipients: way 4", api.ErrArg, func(x *asked) { x.p.To[0].Way = 4 }},
		{"ring", api.ErrNone, func(x *asked) { x.r = rings(t, "b", long(24), "p", "p") }}, {"ring: a size that is none", api.ErrKey, func(x *asked) { x.p.To[0].Size, x.r = 23, rings(t, "a", long(23), "p", "p", "\xff", long(23)) }}, {"ring: a name that is none", api.ErrNone, func(x *asked) { x.p.To[1].Name = long(129) }}, {"ring: two without a name", api.ErrNone, func(x *asked) { x.p.To[1].Name = "" }},
		{"key", api.ErrKey, func(x *asked) { x.p.Key = long(16) }},
		{"iv", api.ErrIV, func(x *asked) { x.p.IV = long(12) }}, {"iv: none", api.ErrIV, func(x *asked) { x.p.IV = "" }},
		{"tag", api.ErrTag, func(x *asked) { x.p.Tag = 16 }}, {"tag of 12", api.ErrTag, func(x *asked) { x.p.Tag = 12 }}, {"tag below 0", api.ErrTag, func(x *asked) { x.p.Tag = -1 }},
		{"password's kind", api.ErrKind, func(x *asked) { x.p.To[1].Kind = 0 }},
		{"salt", api.ErrIV, func(x *asked) { x.p.To[1].Salt = "" }}, {"salt: long", api.ErrIV, func(x *asked) { x.p.To[1].Salt = long(1001) }},
		{"rounds", api.ErrArg, func(x *asked) { x.p.To[1].Rounds = -1 }}, {"rounds: many", api.ErrRounds, func(x *asked) { x.p.To[1].Rounds = 1 << 40 }}, {"rounds: above the limit", api.ErrRounds, func(x *asked) { x.lim.Rounds = 4 }},
		{"names", api.ErrArg, func(x *asked) { x.p.To[0].Name = "\xff" }},
		{"beside", api.ErrLimit, func(x *asked) { x.aad = long(60000) }},
		{"bytes", api.ErrLimit, func(x *asked) { x.lim.Bytes = 100 }}, {"bytes: items", api.ErrLimit, func(x *asked) { x.lim.Items = 10 }}, {"bytes: depth", api.ErrLimit, func(x *asked) { x.lim.Depth = 3 }},
	}
	first(t, general, l)
	// What doesn't count doesn't matter.
	x := general()
	want, _ := envelope.Seal(x.p, x.r, x.aad, "text", most)
	x.p.Fill = "any"
	x.p.To[0].Kind, x.p.To[0].Salt, x.p.To[0].Rounds, x.p.To[0].IV, x.p.To[0].Key, x.p.To[0].Loose = 7, long(2000), -5, "any", "any", "any"
	x.p.To[1].Size, x.p.To[1].IV, x.p.To[1].Key, x.p.To[1].Loose = 99, "any", "any", "any"
	if got, e := envelope.Seal(x.p, x.r, x.aad, "text", most); got != want || e != api.OK {
		t.Errorf("%s, %v", got, e)
	}
	for _, format := range []int{2, 3} {
		base := func() asked {
			x := general()
			x.p.Format, x.p.To = format, x.p.To[1:]
			if format == 2 {
				x.aad = ""
			}
			return x
		}
		x := base()
		x.lim.Rounds = x.p.To[0].Rounds // as many as may be
		if _, e := envelope.Seal(x.p, x.r, x.aad, "", x.lim); e != api.OK {
			t.Error(format, e)
		}
		first(t, base, []breaks{
			{"recipients: two", api.ErrArg, func(x *asked) { x.p.To = []api.Recipient{x.p.To[0], x.p.To[0]} }}, {"recipients: none", api.ErrArg, func(x *asked) { x.p.To = nil }}, {"recipients: no way", api.ErrArg, func(x *asked) { x.p.To[0].Way = 5 }},
			{"ring", api.ErrNone, func(x *asked) { x.p.To[0].Name = "q" }},
			{"key", api.ErrKey, func(x *asked) { x.p.Key += "k" }},
			{"names", api.ErrArg, func(x *asked) { x.p.To[0].Name = "\xff" }},
			{"bytes", api.ErrLimit, func(x *asked) { x.lim.Bytes = 50 }},
		})
		x = base()
		x.aad = "a"
		if _, e := envelope.Seal(x.p, x.r, x.aad, "", most); (e == api.ErrArg) != (format == 2) {
			t.Error(format, e)
		}
		// Direct: the message's key is the ring's, and none is drawn.
		x.aad = ""
		x.p.To = []api.Recipient{{Way: 1, Name: "d"}}
		x.r = rings(t, "d", secret(32))
		if _, e := envelope.Seal(x.p, x.r, "", "", most); e != api.ErrKey {
			t.Error(format, e)
		}
		x.p.Key = ""
		if _, e := envelope.Seal(x.p, x.r, "", "", most); e != api.OK {
			t.Error(format, e)
		}
		x.r = rings(t, "d", secret(16))
		if _, e := envelope.Seal(x.p, x.r, "", "", most); e != api.ErrNone {
			t.Error(format, e)
		}
	}
	// What is beside, together with the header, is as long as may be, or too long.
	x = general()
	e, _ := envelope.Inspect(want, most)
	for n := 52000; n < 52600; n++ {
		e.Aad = long(n)
		if len(jwe.Beside(e)) <= api.MaxText-1 && n < 52400 {
			continue
		}
		if _, no := envelope.Seal(x.p, x.r, long(n), "", most); (no == api.OK) != (len(jwe.Beside(e)) <= api.MaxText) || no != api.OK && no != api.ErrLimit {
			t.Fatal(n, len(jwe.Beside(e)), no)
		}
	}
}

// P26.3: of items.
func TestItemErrors(t *testing.T) {
	base := func() asked {
		return asked{p: api.Plan{Format: 5, Alg: 10, IV: long(13), To: []api.Recipient{{Way: 1, Name: "a"}}}, r: rings(t, "a", secret(16)), aad: "beside", lim: most}
	}
	l := []breaks{
		{"limits", api.ErrArg, func(x *asked) { x.lim.Items = 0 }},
		{"kind of cipher 4", api.ErrKind, func(x *asked) { x.p.Alg = 4 }}, {"kind of cipher 5", api.ErrKind, func(x *asked) { x.p.Alg = 5 }}, {"kind of cipher 6", api.ErrKind, func(x *asked) { x.p.Alg = 6 }}, {"kind of cipher 105", api.ErrKind, func(x *asked) { x.p.Alg = 105 }}, {"kind of cipher 201", api.ErrKind, func(x *asked) { x.p.Alg = 201 }}, {"kind of a tag alone", api.ErrKind, func(x *asked) { x.p.Format = 6 }},
		{"long text", api.ErrLimit, func(x *asked) { x.text = long(70001) }}, {"long aad", api.ErrLimit, func(x *asked) { x.aad = long(70001) }}, {"long text for 13", api.ErrLimit, func(x *asked) { x.text = long(65536) }}, {"long text for 13 with another iv", api.ErrLimit, func(x *asked) { x.text, x.p.IV = long(65536), "" }},
		{"recipients: none", api.ErrArg, func(x *asked) { x.p.To = nil }}, {"recipients: two", api.ErrArg, func(x *asked) { x.p.To = []api.Recipient{{Way: 1, Name: "a"}, {Way: 1, Name: "a"}} }}, {"recipients: wrapped", api.ErrArg, func(x *asked) { x.p.To[0].Way = 2 }}, {"recipients: a password", api.ErrArg, func(x *asked) { x.p.To[0].Way = 3 }},
		{"ring", api.ErrNone, func(x *asked) { x.r = rings(t, "a", secret(24)) }}, {"ring: another name", api.ErrNone, func(x *asked) { x.p.To[0].Name = "b" }},
		{"key", api.ErrKey, func(x *asked) { x.p.Key = secret(16) }},
		{"iv", api.ErrIV, func(x *asked) { x.p.IV = long(12) }}, {"iv: none", api.ErrIV, func(x *asked) { x.p.IV = "" }},
		{"tag", api.ErrTag, func(x *asked) { x.p.Tag = 8 }},
		{"structure", api.ErrLimit, func(x *asked) { x.aad = long(70000) }},
		{"bytes", api.ErrLimit, func(x *asked) { x.lim.Bytes = 20 }}, {"bytes: items", api.ErrLimit, func(x *asked) { x.lim.Items = 4 }}, {"bytes: depth", api.ErrLimit, func(x *asked) { x.lim.Depth = 2 }},
	}
	first(t, base, l)
	first(t, func() asked {
		return asked{p: api.Plan{Format: 6, Alg: 105, To: []api.Recipient{{Way: 1}}}, r: rings(t, "any", secret(32)), text: "text", lim: most}
	}, []breaks{
		{"kind of a cipher", api.ErrKind, func(x *asked) { x.p.Alg = 1 }}, {"kind of none", api.ErrKind, func(x *asked) { x.p.Alg = 5 }}, {"kind of another format", api.ErrKind, func(x *asked) { x.p.Format = 5 }},
		{"long text", api.ErrLimit, func(x *asked) { x.text = long(70001) }},
		{"ring", api.ErrNone, func(x *asked) { x.r = rings(t, "a", secret(32), "b", "x") }},
		{"key", api.ErrKey, func(x *asked) { x.p.Key = secret(32) }},
		{"iv", api.ErrIV, func(x *asked) { x.p.IV = long(12) }},
		{"tag", api.ErrTag, func(x *asked) { x.p.Tag = 32 }},
		{"structure", api.ErrLimit, func(x *asked) { x.aad, x.text = long(70000), long(70000) }},
		{"bytes", api.ErrLimit, func(x *asked) { x.lim.Bytes = 20 }},
	})
	// A name of items may be any bytes.
	x := base()
	x.p.To[0].Name, x.r = "\xff", rings(t, "\xff", secret(16))
	s, e := envelope.Seal(x.p, x.r, "", "text", most)
	if e != api.OK {
		t.Fatal(e)
	}
	if got, e := envelope.Open(s, x.r, "", most); got != "text" || e != api.OK {
		t.Error(got, e)
	}
}

// The longest of all that items seal: what is authenticated is as long as may be, or a byte longer.
func TestLongest(t *testing.T) {
	for _, c := range []struct {
		format, alg, size, iv, aad, text int
		e                                api.Errno
	}{
		{5, 12, 16, 7, 69981, 70000, api.OK}, {5, 12, 16, 7, 69982, 70000, api.ErrLimit}, {5, 1, 16, 12, 69981, 70000, api.OK}, {5, 10, 16, 13, 69981, 65535, api.OK},
		{6, 105, 32, 0, 69980, 70000, api.OK}, {6, 105, 32, 0, 69981, 70000, api.ErrLimit}, {6, 105, 32, 0, 70000, 69980, api.OK}, {6, 126, 32, 0, 70000, 69979, api.OK}, {6, 126, 32, 0, 70000, 69980, api.ErrLimit},
		{1, 1, 16, 12, 70000, 70000, api.OK}, {1, 201, 16, 7, 70000, 70000, api.OK}, {4, 6, 64, 16, 52000, 70000, api.OK}, {3, 3, 32, 12, 0, 70000, api.OK}, {2, 4, 32, 16, 0, 70000, api.OK},
	} {
		p := api.Plan{Format: c.format, Alg: c.alg, IV: long(c.iv), To: []api.Recipient{{Way: 1, Name: "a"}}}
		r := rings(t, "a", secret(c.size))
		if c.format == 1 {
			p.To, p.Key, r = []api.Recipient{{Way: 2, Size: 16, Name: "a"}}, secret(16), rings(t, "a", long(16))
		}
		header, _, _ := cose.Heads(c.alg, "a", "")
		structure := len(cose.Structure(api.Envelope{Format: c.format, Header: header, Cipher: long(c.text)}, long(c.aad)))
		if most := map[int]int{5: 70000, 6: 140000}[c.format]; c.format >= 5 && (structure > most) != (c.e != api.OK) {
			t.Error(c, "is of", structure)
			continue
		}
		s, e := envelope.Seal(p, r, long(c.aad), long(c.text), most)
		if e != c.e || (s == "") != (e != api.OK) {
			t.Error(c, e)
		}
		if e != api.OK {
			continue
		}
		if got, e := envelope.Open(s, r, long(c.aad), most); got != long(c.text) || e != api.OK {
			t.Error(c, len(got), e)
		}
		if c.format >= 5 {
			if got, e := envelope.Open(s, r, long(c.aad)[1:], most); e != api.ErrAuth || got != "" {
				t.Error(c, len(got), e)
			}
			if got, e := envelope.Open(s, r, long(api.MaxText), most); c.aad < api.MaxText && (e != api.ErrLimit || got != "") {
				t.Error(c, len(got), e)
			}
		}
	}
}

// messages are right ones of all formats, with their rings, what is beside them, and their text.
func messages(t testing.TB) []string {
	keys := keyring(t)
	var out []string
	for format := api.CMS; format <= api.Mac0; format++ {
		r := rand.New(rand.NewSource(int64(format)))
		all := algs(format)
		for _, alg := range []int{all[0], all[3], all[len(all)-1]} {
			l, _ := plans(r, format, alg)
			for _, p := range l {
				aad := "beside"
				if format == api.Compact {
					aad = ""
				}
				s, e := envelope.Seal(p, keys, aad, "a text", most)
				if e != api.OK {
					t.Fatal(e)
				}
				out = append(out, s)
			}
		}
	}
	return out
}

func beside(s string) string {
	if s[0] == 'e' { // five texts
		return ""
	}
	return "beside"
}

// W2, W4: whatever is changed of a message.
func TestChanged(t *testing.T) {
	keys := keyring(t)
	r := rand.New(rand.NewSource(1))
	found := map[api.Errno]int{}
	for _, s := range messages(t) {
		if got, e := envelope.Open(s, keys, beside(s), most); got != "a text" || e != api.OK {
			t.Fatalf("%x: %q, %v", s, got, e)
		}
		for range 400 {
			b := []byte(s)
			for range 1 + r.Intn(2) {
				i := r.Intn(len(b))
				switch r.Intn(5) {
				case 0:
					b[i] = byte(r.Intn(256))
				case 1:
					b[i] ^= 1 << r.Intn(8)
				case 2:
					b = append(b[:i], b[i+1:]...)
				case 3:
					b = append(b[:i], append([]byte{byte(r.Intn(256))}, b[i:]...)...)
				case 4:
					b = b[:i+1]
				}
			}
			got, e := envelope.Open(string(b), keys, beside(s), most)
			found[e]++
			switch e {
			case api.OK:
				if got != "a text" {
					t.Fatalf("%x: %q", b, got)
				}
			case api.ErrForm, api.ErrLimit, api.ErrKind, api.ErrNone, api.ErrAuth:
				if got != "" {
					t.Fatalf("%x: %q beside %v", b, got, e)
				}
			default:
				t.Fatalf("%x: %v", b, e)
			}
			checkIntake(t, r, string(b), keys, beside(s), most, got, e)
		}
	}
	for _, e := range []api.Errno{api.OK, api.ErrForm, api.ErrKind, api.ErrNone, api.ErrAuth} {
		if found[e] < 20 {
			t.Error(e, "is seldom told:", found)
		}
	}
}

// checkIntake hands a text to an intake in pieces: what Open answers of it is the same.
func checkIntake(t *testing.T, r *rand.Rand, s string, keys *ring.Ring, aad string, lim api.Limits, text string, e api.Errno) {
	t.Helper()
	x, _ := envelope.New(lim)
	fault := api.OK
	for rest := s; rest != ""; {
		n := 1 + r.Intn(len(rest))
		if r.Intn(2) == 0 {
			n = 1 + r.Intn(min(len(rest), 3))
		}
		fault = x.Write(rest[:n])
		rest = rest[n:]
		if fault != api.OK && fault != e {
			t.Fatalf("Write of %x within %v: %v; Open: %v", s, lim, fault, e)
		}
	}
	whole, _ := envelope.New(lim)
	if got := whole.Write(s); got != fault {
		t.Fatalf("Write of %x within %v: %v at once, %v in pieces", s, lim, got, fault)
	}
	for _, y := range []*envelope.Intake{x, whole} {
		if got, no := y.Open(keys, aad); got != text || no != e {
			t.Fatalf("Open of %x within %v: %q, %v; not %q, %v", s, lim, got, no, text, e)
		}
	}
}

// W2: any bytes.
func TestAnyBytes(t *testing.T) {
	keys := keyring(t)
	r := rand.New(rand.NewSource(2))
	for range 20000 {
		b := make([]byte, r.Intn(30))
		for i := range b {
			b[i] = byte(r.Intn(256))
			if r.Intn(2) == 0 {
				b[i] = "{}[]\":,. 0a\x30\x06\xa0\xd0\x83\xd1\x84\x40"[r.Intn(19)]
			}
		}
		lim := api.Limits{Depth: 1 + r.Intn(5), Items: 1 + r.Intn(10), Bytes: 1 + r.Intn(30), Rounds: 1}
		got, e := envelope.Open(string(b), keys, "", lim)
		if got != "" || e != api.ErrForm && e != api.ErrLimit && e != api.ErrKind {
			t.Fatalf("%x: %q, %v", b, got, e)
		}
		checkIntake(t, r, string(b), keys, "", lim, "", e)
	}
}

// W5: within as many bytes as a message has it is read alike; within fewer it is not.
func TestLimits(t *testing.T) {
	keys := keyring(t)
	r := rand.New(rand.NewSource(3))
	for _, s := range messages(t) {
		want, _ := envelope.Inspect(s, most)
		lim := most
		lim.Bytes = len(s)
		if got, e := envelope.Inspect(s, lim); e != api.OK || !same(got, want) {
			t.Fatalf("%x: %v", s, e)
		}
		lim.Bytes--
		if got, e := envelope.Open(s, keys, beside(s), lim); e != api.ErrLimit || got != "" {
			t.Fatalf("%x: %v", s, e)
		}
		checkIntake(t, r, s, keys, beside(s), lim, "", api.ErrLimit)
		for range 20 {
			lim := api.Limits{Depth: 1 + r.Intn(10), Items: 1 + r.Intn(60), Bytes: len(s) + r.Intn(3), Rounds: 1 + r.Intn(10)}
			got, e := envelope.Inspect(s, lim)
			if e == api.OK && !same(got, want) || e != api.OK && e != api.ErrLimit {
				t.Fatalf("%x within %v: %v", s, lim, e)
			}
			if e != api.OK {
				continue
			}
			more := api.Limits{Depth: lim.Depth + r.Intn(33-lim.Depth), Items: lim.Items + r.Intn(1000), Bytes: lim.Bytes + r.Intn(1000), Rounds: lim.Rounds + r.Intn(1000)}
			if got, e := envelope.Inspect(s, more); e != api.OK || !same(got, want) {
				t.Fatalf("%x within %v: %v", s, more, e)
			}
		}
	}
}

// P26.1
func TestReserialize(t *testing.T) {
	p := api.Plan{Format: 4, Alg: 1, Key: secret(16), IV: long(12), To: []api.Recipient{{Way: 2, Size: 16, Name: "k16"}}}
	keys := keyring(t)
	s, _ := envelope.Seal(p, keys, "beside", "text", most)
	loose := strings.Replace(strings.Replace(s, ":", " :\n", -1), `"recipients"`, `"recipient\u0073"`, 1) + "\t"
	if got, e := envelope.Reserialize(loose, most); got != s || e != api.OK {
		t.Errorf("%s, %v", got, e)
	}
	if got, e := envelope.Open(loose, keys, "beside", most); got != "text" || e != api.OK {
		t.Errorf("%s, %v", got, e)
	}
	// Two headers that can be told each, and would be too long together.
	ctrl := strings.Repeat(`\n`, 30000)
	wide := strings.Replace(s, `"recipients":[{"header":{`, `"unprotected":{"x":"`+ctrl+`"},"recipients":[{"header":{"y":"`+ctrl+`",`, 1)
	if got, e := envelope.Reserialize(wide, most); got != "" || e != api.ErrLimit {
		t.Error(len(got), e)
	}
	if got, e := envelope.Open(wide, keys, "beside", most); got != "text" || e != api.OK {
		t.Error(got, e)
	}
	for s, e := range map[string]api.Errno{"": api.ErrForm, "\x30\x00": api.ErrForm, "\xc1\xf6": api.ErrKind, "....": api.ErrForm, "{}": api.ErrForm} {
		if got, no := envelope.Reserialize(s, most); got != "" || no != e {
			t.Errorf("%q: %q, %v", s, got, no)
		}
		if got, no := envelope.Inspect(s, most); !same(got, api.Envelope{}) || no != e {
			t.Errorf("%q: %v, %v", s, got, no)
		}
	}
	if got, e := envelope.Reserialize(s, api.Limits{}); got != "" || e != api.ErrArg {
		t.Error(got, e)
	}
}

// P26.2: a key that fits, and isn't what seals the message's key.
func TestOpenFaults(t *testing.T) {
	keys := keyring(t)
	for _, format := range []int{1, 3} {
		p := api.Plan{Format: format, Alg: 1, Key: secret(16), IV: long(12), To: []api.Recipient{{Way: 2, Size: 16, Name: "k16"}}}
		s, _ := envelope.Seal(p, keys, "", "text", most)
		e, _ := envelope.Inspect(s, most)
		tell := cms.Tell
		if format == 3 {
			tell = jwe.Tell
		}
		other, _ := wrap.Wrap(secret(16), secret(24)) // a key of another length
		for i, key := range []string{other, long(24), e.To[0].Key[:23] + "x"} {
			changed := e
			changed.To = []api.Recipient{e.To[0]}
			changed.To[0].Key = key
			told, no := tell(changed)
			if format == 3 && i == 0 {
				if no != api.ErrArg {
					t.Error(no)
				}
				continue
			}
			if got, e := envelope.Open(told, keys, "", most); got != "" || e != api.ErrAuth {
				t.Errorf("%d %d: %q, %v", format, i, got, e)
			}
		}
	}
	// A key of another length than the cipher's, with which all is sealed.
	e := api.Envelope{Format: 1, Alg: 1, IV: long(12), To: []api.Recipient{{Way: 2, Size: 16, Name: "k16"}}}
	e.To[0].Key, _ = wrap.Wrap(secret(16), secret(24))
	out, _ := gcm.Seal(secret(24), e.IV, "", "text", 16)
	e.Cipher, e.Tag = out[:4], out[4:]
	s, no := cms.Tell(e)
	if no != api.OK {
		t.Fatal(no)
	}
	if got, e := envelope.Open(s, keys, "", most); got != "" || e != api.ErrAuth {
		t.Error(got, e)
	}
	// A header of a tree that isn't that of what is beside it.
	e, _ = envelope.Inspect(messages(t)[0], most)
	inner := wrapKey(t, e)
	e.Header = cms.Attributes("other")
	out, _ = gcm.Seal(inner, e.IV, e.Header, "a text", len(e.Tag))
	e.Cipher, e.Tag = out[:6], out[6:]
	s, no = cms.Tell(e)
	if no != api.OK {
		t.Fatal(no)
	}
	if got, e := envelope.Open(s, keys, "beside", most); got != "" || e != api.ErrAuth {
		t.Error(got, e)
	}
	if got, e := envelope.Open(s, keys, "other", most); got != "a text" || e != api.OK {
		t.Error(got, e)
	}
}

func wrapKey(t *testing.T, e api.Envelope) string {
	t.Helper()
	key, no := wrap.Unwrap(secret(e.To[0].Size), e.To[0].Key)
	if no != api.OK {
		t.Fatal(no)
	}
	return key
}

// P26.4
func TestIntake(t *testing.T) {
	if x, e := envelope.New(api.Limits{}); x != nil || e != api.ErrArg {
		t.Error(x, e)
	}
	for _, x := range []*envelope.Intake{nil, {}} {
		if e := x.Write("x"); e != api.ErrNil {
			t.Error(e)
		}
		if s, e := x.Open(nil, ""); s != "" || e != api.ErrNil {
			t.Error(s, e)
		}
	}
	keys := keyring(t)
	small := api.Limits{Depth: 1, Items: 2, Bytes: 5, Rounds: 1}
	for _, c := range []struct {
		pieces []string
		want   []api.Errno
		open   api.Errno
	}{
		{nil, nil, api.ErrForm}, {[]string{"", ""}, []api.Errno{0, 0}, api.ErrForm}, {[]string{"abcde", "", "f", "", "g"}, []api.Errno{0, 0, 10, 10, 10}, api.ErrLimit}, {[]string{"....", ".", "."}, []api.Errno{0, 0, 10}, api.ErrLimit}, {[]string{"\xff"[:0] + "*", "\x00"}, []api.Errno{0, 0}, api.ErrForm},
		{[]string{" ", "\n\t", "{", "x"}, []api.Errno{0, 0, 0, 9}, api.ErrForm}, {[]string{"     ", " ", "{"}, []api.Errno{0, 10, 10}, api.ErrLimit}, {[]string{"{", "{"}, []api.Errno{0, 9}, api.ErrForm}, {[]string{" {\"", "a\"", ":"}, []api.Errno{0, 0, 10}, api.ErrLimit}, {[]string{" x", "{", "{"}, []api.Errno{0, 0, 0}, api.ErrForm}, {[]string{"{}", "x"}, []api.Errno{0, 9}, api.ErrForm}, {[]string{"{\"a\":["}, []api.Errno{10}, api.ErrLimit},
		{[]string{"0", "\x02", "\x05\x00", "x", "\x30"}, []api.Errno{0, 0, 0, 9, 9}, api.ErrForm}, {[]string{"0\x1f"}, []api.Errno{0}, api.ErrForm}, {[]string{"0\x03\x1f"}, []api.Errno{11}, api.ErrKind}, {[]string{"0\x04\x30"}, []api.Errno{10}, api.ErrLimit}, {[]string{"0\x05\x04\x03aaaaaaaaaa"}, []api.Errno{10}, api.ErrLimit}, {[]string{"0\x02\x05\x00"}, []api.Errno{0}, api.ErrForm},
		{[]string{"\x81", "\x18", "\x17"}, []api.Errno{0, 0, 9}, api.ErrForm}, {[]string{"\x81\x81"}, []api.Errno{10}, api.ErrLimit}, {[]string{"\xd0"}, []api.Errno{0}, api.ErrForm}, {[]string{"\xe0"}, []api.Errno{11}, api.ErrKind}, {[]string{"\xff"}, []api.Errno{9}, api.ErrForm}, {[]string{"\x80"}, []api.Errno{0}, api.ErrForm},
	} {
		x, e := envelope.New(small)
		if x == nil || e != api.OK {
			t.Fatal(e)
		}
		for i, piece := range c.pieces {
			if e := x.Write(piece); e != c.want[i] {
				t.Errorf("%q, %d: %v", c.pieces, i, e)
			}
		}
		for range 2 {
			if s, e := x.Open(keys, ""); s != "" || e != c.open {
				t.Errorf("%q: %q, %v", c.pieces, s, e)
			}
		}
		if s, e := envelope.Open(strings.Join(c.pieces, ""), keys, "", small); s != "" || e != c.open {
			t.Errorf("%q at once: %q, %v", c.pieces, s, e)
		}
	}
	// More may be written behind a question.
	s := messages(t)[0]
	x, _ := envelope.New(most)
	x.Write(s[:20])
	if _, e := x.Open(keys, "beside"); e != api.ErrForm {
		t.Error(e)
	}
	x.Write(s[20:])
	if got, e := x.Open(keys, "beside"); got != "a text" || e != api.OK {
		t.Error(got, e)
	}
}

// RFC 7516: appendices A.3, A.4.6 and A.5.
func TestStandards(t *testing.T) {
	key := bin("19ac2082e1721ab58a6afec05f854a52")
	plain := "Live long and prosper."
	r := rings(t, "7", key)
	for _, s := range []string{
		"eyJhbGciOiJBMTI4S1ciLCJlbmMiOiJBMTI4Q0JDLUhTMjU2In0.6KB707dM9YTIgHtLvtgWQ8mKwboJW3of9locizkDTHzBC2IlrT1oOQ.AxY8DCtDaGlsbGljb3RoZQ.KDlTtXchhZTGufMYmOYGS4HffxPSUrfmqCHXaI9wOGY.U0m_YmjN04DJvceFICbCVQ",
		`{"protected":"eyJlbmMiOiJBMTI4Q0JDLUhTMjU2In0","unprotected":{"jku":"https://server.example.com/keys.jwks"},"header":{"alg":"A128KW","kid":"7"},"encrypted_key":"6KB707dM9YTIgHtLvtgWQ8mKwboJW3of9locizkDTHzBC2IlrT1oOQ","iv":"AxY8DCtDaGlsbGljb3RoZQ","ciphertext":"KDlTtXchhZTGufMYmOYGS4HffxPSUrfmqCHXaI9wOGY","tag":"Mz-VPPyU4RlcuYv1IwIvzw"}`,
	} {
		if got, e := envelope.Open(s, r, "", most); got != plain || e != api.OK {
			t.Errorf("%s: %q, %v", s, got, e)
		}
	}
}

// R4, R5: what is handed in stays as it is, and the same is answered again.
func TestOwn(t *testing.T) {
	to := make([]api.Recipient, 2, 4)
	to[0], to[1] = api.Recipient{Way: 2, Size: 16, Name: "k16"}, api.Recipient{Way: 2, Size: 24, Name: "k24"}
	before := append([]api.Recipient{}, to[:4]...)
	for _, format := range []int{1, 4} {
		p := api.Plan{Format: format, Alg: 1, Key: secret(16), IV: long(12), To: to}
		a, e := envelope.Seal(p, keyring(t), "", "text", most)
		b, e2 := envelope.Seal(p, keyring(t), "", "text", most)
		if e != api.OK || e2 != api.OK || a != b || !reflect.DeepEqual(to[:4], before) {
			t.Error(format, e, e2)
		}
		x, _ := envelope.Inspect(a, most)
		x.To[0].Name = "changed"
		if y, _ := envelope.Inspect(a, most); y.To[0].Name == "changed" {
			t.Error("shared")
		}
	}
}
