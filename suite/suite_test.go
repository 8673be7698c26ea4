package suite_test

import (
	"math/rand"
	"strings"
	"testing"

	"pyxis/api"
	"pyxis/cbc"
	"pyxis/cbchs"
	"pyxis/ccm"
	"pyxis/gcm"
	"pyxis/hmac"
	"pyxis/suite"
)

func text(r *rand.Rand, n int) string {
	b := make([]byte, n)
	r.Read(b)
	return string(b)
}

// rows is the chapter's table, and what each is: a layer, and of layer 4 its kind.
var rows = []struct {
	alg, key, iv, tag, layer, kind int
}{
	{1, 16, 12, 16, 9, 0}, {2, 24, 12, 16, 9, 0}, {3, 32, 12, 16, 9, 0},
	{4, 32, 16, 16, 11, 0}, {5, 48, 16, 24, 11, 0}, {6, 64, 16, 32, 11, 0},
	{10, 16, 13, 8, 10, 0}, {11, 32, 13, 8, 10, 0}, {12, 16, 7, 8, 10, 0}, {13, 32, 7, 8, 10, 0},
	{30, 16, 13, 16, 10, 0}, {31, 32, 13, 16, 10, 0}, {32, 16, 7, 16, 10, 0}, {33, 32, 7, 16, 10, 0},
	{104, 32, 0, 8, 4, 256}, {105, 32, 0, 32, 4, 256}, {106, 48, 0, 48, 4, 384}, {107, 64, 0, 64, 4, 512},
	{114, 16, 0, 8, 6, 0}, {115, 32, 0, 8, 6, 0}, {125, 16, 0, 16, 6, 0}, {126, 32, 0, 16, 6, 0},
}

// P13.1
func TestOf(t *testing.T) {
	known := map[int]bool{}
	for _, c := range rows {
		known[c.alg] = true
		if got, e := suite.Of(c.alg); got != (api.Suite{Key: c.key, IV: c.iv, Tag: c.tag}) || e != api.OK {
			t.Error(c, got, e)
		}
	}
	for alg := -300; alg < 300; alg++ {
		if known[alg] {
			continue
		}
		if got, e := suite.Of(alg); got != (api.Suite{}) || e != api.ErrKind {
			t.Error(alg, got, e)
		}
		if a, b, e := suite.Seal(alg, "", "", "", ""); a+b != "" || e != api.ErrKind {
			t.Error(alg, e)
		}
		if s, e := suite.Open(alg, "", "", "", "", ""); s != "" || e != api.ErrKind {
			t.Error(alg, e)
		}
		if s, e := suite.Mac(alg, "", ""); s != "" || e != api.ErrKind {
			t.Error(alg, e)
		}
		if e := suite.Check(alg, "", "", ""); e != api.ErrKind {
			t.Error(alg, e)
		}
	}
}

// P13.2
func TestCiphers(t *testing.T) {
	r := rand.New(rand.NewSource(1))
	for _, c := range rows {
		key, iv, aad, s := text(r, c.key), text(r, c.iv), text(r, 20), text(r, 50)
		want, e := "", api.OK
		switch c.layer {
		case 9:
			want, e = gcm.Seal(key, iv, aad, s, c.tag)
		case 10:
			want, e = ccm.Seal(key, iv, aad, s, c.tag)
		case 11:
			want, e = cbchs.Seal(key, iv, aad, s)
		default:
			continue
		}
		sealed, tag, e2 := suite.Seal(c.alg, key, iv, aad, s)
		if e != api.OK || e2 != api.OK || sealed+tag != want || len(tag) != c.tag {
			t.Error(c, e, e2, len(sealed), len(tag))
		}
		if got, e := suite.Open(c.alg, key, iv, aad, sealed, tag); got != s || e != api.OK {
			t.Error(c, got, e)
		}
		bad := "x" + tag[1:]
		if tag[0] == 'x' {
			bad = "y" + tag[1:]
		}
		if got, e := suite.Open(c.alg, key, iv, aad, sealed, bad); got != "" || e != api.ErrAuth {
			t.Error(c, got, e)
		}
		if got, e := suite.Open(c.alg, key, iv, aad+"x", sealed, tag); got != "" || e != api.ErrAuth {
			t.Error(c, got, e)
		}
		// The errors, in their order.
		long := strings.Repeat("t", api.MaxText+1)
		for _, w := range []struct {
			key, iv, tag string
			seal, open   api.Errno
		}{{key + "k", "", "", api.ErrKey, api.ErrKey}, {key[1:], iv, tag, api.ErrKey, api.ErrKey}, {key, iv + "i", "", api.ErrIV, api.ErrIV}, {key, iv[1:], tag, api.ErrIV, api.ErrIV}, {key, iv, tag[1:], api.ErrSize, api.ErrTag}, {key, iv, tag + "t", api.ErrSize, api.ErrTag}, {key, iv, tag, api.ErrSize, api.ErrSize}} {
			if a, b, e := suite.Seal(c.alg, w.key, w.iv, aad, long); a+b != "" || e != w.seal {
				t.Error(c, e, w.seal)
			}
			if got, e := suite.Open(c.alg, w.key, w.iv, long, sealed, w.tag); got != "" || e != w.open {
				t.Error(c, e, w.open)
			}
		}
		if s, e := suite.Mac(c.alg, key, ""); s != "" || e != api.ErrKind {
			t.Error(c, e)
		}
		if e := suite.Check(c.alg, key, "", tag); e != api.ErrKind {
			t.Error(c, e)
		}
	}
	if s, e := suite.Open(4, strings.Repeat("k", 32), strings.Repeat("i", 16), "", "no whole block", strings.Repeat("t", 16)); s != "" || e != api.ErrSize {
		t.Error(s, e)
	}
	if a, b, e := suite.Seal(10, strings.Repeat("k", 16), strings.Repeat("i", 13), "", strings.Repeat("t", 65536)); a+b != "" || e != api.ErrSize {
		t.Error(e)
	}
}

// P13.3
func TestTags(t *testing.T) {
	r := rand.New(rand.NewSource(2))
	for _, c := range rows {
		if c.iv != 0 {
			continue
		}
		for _, n := range []int{0, 1, 16, 33, 2 * api.MaxText} {
			key, s := text(r, c.key), text(r, n)
			want, e := "", api.OK
			if c.layer == 4 {
				want, e = hmac.Sum(c.kind, key, s)
			} else {
				want, e = cbc.Mac(key, s)
			}
			want = want[:c.tag]
			if got, e2 := suite.Mac(c.alg, key, s); e != api.OK || e2 != api.OK || got != want {
				t.Error(c, n, got, e, e2)
			}
			if e := suite.Check(c.alg, key, s, want); e != api.OK {
				t.Error(c, n, e)
			}
			for i := range want {
				b := []byte(want)
				b[i]++
				if e := suite.Check(c.alg, key, s, string(b)); e != api.ErrAuth {
					t.Error(c, n, i, e)
				}
				if n > 100 {
					break
				}
			}
		}
		key, long := strings.Repeat("k", c.key), strings.Repeat("t", 2*api.MaxText+1)
		tag := strings.Repeat("t", c.tag)
		for _, w := range []struct {
			key, tag   string
			mac, check api.Errno
		}{{key + "k", tag, api.ErrKey, api.ErrKey}, {key[1:], "", api.ErrKey, api.ErrKey}, {key, tag + "t", api.ErrSize, api.ErrTag}, {key, tag[1:], api.ErrSize, api.ErrTag}, {key, "", api.ErrSize, api.ErrTag}, {key, tag, api.ErrSize, api.ErrSize}} {
			if got, e := suite.Mac(c.alg, w.key, long); got != "" || e != w.mac {
				t.Error(c, e, w.mac)
			}
			if e := suite.Check(c.alg, w.key, long, w.tag); e != w.check {
				t.Error(c, e, w.check)
			}
		}
		if a, b, e := suite.Seal(c.alg, key, "", "", ""); a+b != "" || e != api.ErrKind {
			t.Error(c, e)
		}
		if s, e := suite.Open(c.alg, key, "", "", "", tag); s != "" || e != api.ErrKind {
			t.Error(c, e)
		}
	}
}
