package base_test

import (
	"encoding/base64"
	"math/rand"
	"strings"
	"testing"

	"pyxis/api"
	"pyxis/base"
)

const signs = "ABCDEFGHIJKLMNOPQRSTUVWXYZabcdefghijklmnopqrstuvwxyz0123456789-_"

func text(r *rand.Rand, n int) string {
	b := make([]byte, n)
	r.Read(b)
	return string(b)
}

// P14.1
func TestEncode(t *testing.T) {
	for s, want := range map[string]string{"": "", "a": "YQ", "ab": "YWI", "abc": "YWJj", "\xff\xff\xff": "____", "\xfb\xef\xbe": "----", "\x00": "AA", "\xff": "_w"} {
		if got := base.Encode(s); got != want {
			t.Errorf("Encode(%q) = %q", s, got)
		}
	}
	r := rand.New(rand.NewSource(1))
	for n := range 300 {
		s := text(r, n)
		if got := base.Encode(s); got != base64.RawURLEncoding.EncodeToString([]byte(s)) {
			t.Fatalf("Encode(%x) = %q", s, got)
		}
	}
}

// P14.2
func TestDecode(t *testing.T) {
	for _, c := range []struct {
		s, want string
		at      int
		e       api.Errno
	}{
		{"", "", 0, api.OK}, {"YQ", "a", 0, api.OK}, {"YWI", "ab", 0, api.OK}, {"YWJj", "abc", 0, api.OK},
		{"YR", "", 1, api.ErrForm}, {"YQ==", "", 2, api.ErrForm}, {"Y", "", 1, api.ErrForm}, {"YWJ", "", 2, api.ErrForm}, {"YWJjY", "", 5, api.ErrForm},
		{"YWJjYR", "", 5, api.ErrForm}, {"=", "", 0, api.ErrForm}, {"Y=", "", 1, api.ErrForm}, {"YR=", "", 2, api.ErrForm}, {"YWJj\n", "", 4, api.ErrForm}, {" YQ", "", 0, api.ErrForm}, {"a+/a", "", 1, api.ErrForm}, {"a-_/", "", 3, api.ErrForm},
		{"YWJjR+", "", 5, api.ErrForm}, {"YWJj\x80", "", 4, api.ErrForm}, {"Yg", "b", 0, api.OK}, {"Yh", "", 1, api.ErrForm}, {"Yx", "", 1, api.ErrForm}, {"YWD", "", 2, api.ErrForm},
	} {
		if got, at, e := base.Decode(c.s); got != c.want || at != c.at || e != c.e {
			t.Errorf("Decode(%q) = %q, %d, %v", c.s, got, at, e)
		}
	}
	for b := range 256 {
		s := "AAA" + string([]byte{byte(b)})
		_, at, e := base.Decode(s)
		if right := strings.IndexByte(signs, byte(b)) >= 0; right != (e == api.OK) || !right && at != 3 {
			t.Error(b, at, e)
		}
	}
}

// P14.3: of all texts of two and three signs those are decoded that are told so.
func TestOneWay(t *testing.T) {
	for i := range 64 {
		for j := range 64 {
			for k := -1; k < 64; k++ {
				s := signs[i:i+1] + signs[j:j+1]
				if k >= 0 {
					s += signs[k : k+1]
				}
				got, at, e := base.Decode(s)
				std, err := base64.RawURLEncoding.Strict().DecodeString(s)
				if (e == api.OK) != (err == nil) || e == api.OK && (got != string(std) || base.Encode(got) != s) || e != api.OK && at != len(s)-1 {
					t.Fatal(s, got, at, e, err)
				}
			}
		}
	}
	r := rand.New(rand.NewSource(2))
	for n := range 300 {
		s := text(r, n)
		if got, at, e := base.Decode(base.Encode(s)); got != s || at != 0 || e != api.OK {
			t.Fatalf("%x: %x, %d, %v", s, got, at, e)
		}
	}
}
