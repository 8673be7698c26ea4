package cbc_test

import (
	stdaes "crypto/aes"
	"crypto/cipher"
	"encoding/hex"
	"math/rand"
	"strings"
	"testing"

	"pyxis/api"
	"pyxis/cbc"
)

func text(r *rand.Rand, n int) string {
	b := make([]byte, n)
	r.Read(b)
	return string(b)
}

func bin(s string) string {
	b, err := hex.DecodeString(s)
	if err != nil {
		panic(err)
	}
	return string(b)
}

func std(key, iv, s string) string {
	block, err := stdaes.NewCipher([]byte(key))
	if err != nil {
		panic(err)
	}
	out := make([]byte, len(s))
	cipher.NewCBCEncrypter(block, []byte(iv)).CryptBlocks(out, []byte(s))
	return string(out)
}

const iv16 = "iviviviviviviviv"

// P6.1
func TestPad(t *testing.T) {
	for _, c := range []struct {
		s    string
		size int
		want string
		e    api.Errno
	}{
		{"abc", 4, "abc\x01", api.OK}, {"", 4, "\x04\x04\x04\x04", api.OK}, {"abcd", 4, "abcd\x04\x04\x04\x04", api.OK}, {"abcde", 4, "abcde\x03\x03\x03", api.OK}, {"ab", 1, "ab\x01", api.OK},
		{"", 255, strings.Repeat("\xff", 255), api.OK}, {"a", 255, "a" + strings.Repeat("\xfe", 254), api.OK},
		{"a", 0, "", api.ErrArg}, {"a", -1, "", api.ErrArg}, {"a", 256, "", api.ErrArg}, {"a", -1 << 63, "", api.ErrArg},
	} {
		if got, e := cbc.Pad(c.s, c.size); got != c.want || e != c.e {
			t.Errorf("Pad(%q, %d) = %q, %v", c.s, c.size, got, e)
		}
	}
}

// P6.1
func TestUnpad(t *testing.T) {
	for _, c := range []struct {
		s    string
		size int
		want string
		e    api.Errno
	}{
		{"\x04\x04\x04\x04", 4, "", api.OK}, {"abc\x01", 4, "abc", api.OK}, {"abcd\x04\x04\x04\x04", 4, "abcd", api.OK}, {"ab\x02\x02", 4, "ab", api.OK}, {"ab\x01", 1, "ab", api.OK},
		{"", 4, "", api.ErrSize}, {"abc", 4, "", api.ErrSize}, {"abcde", 4, "", api.ErrSize}, {"", 0, "", api.ErrArg}, {"a", 256, "", api.ErrArg}, {"a", -4, "", api.ErrArg},
		{"abc\x00", 4, "", api.ErrPad}, {"abc\x05", 4, "", api.ErrPad}, {"abc\x02", 4, "", api.ErrPad}, {"\x03\x04\x04\x04", 4, "", api.ErrPad}, {"\x04\x04\x05\x04", 4, "", api.ErrPad}, {"abc\xff", 4, "", api.ErrPad},
		{"abcd\x05\x05\x05\x05", 4, "", api.ErrPad}, {"a\x02", 1, "", api.ErrPad}, {strings.Repeat("\xff", 255), 255, "", api.OK},
	} {
		if got, e := cbc.Unpad(c.s, c.size); got != c.want || e != c.e {
			t.Errorf("Unpad(%q, %d) = %q, %v", c.s, c.size, got, e)
		}
	}
	r := rand.New(rand.NewSource(1))
	for range 500 {
		s, size := text(r, r.Intn(300)), 1+r.Intn(255)
		padded, e := cbc.Pad(s, size)
		if got, e2 := cbc.Unpad(padded, size); e != api.OK || e2 != api.OK || got != s || len(padded)%size != 0 || len(padded) <= len(s) || len(padded) > len(s)+size {
			t.Fatal(len(s), size, len(padded), e, e2)
		}
	}
}

// P6.2: SP 800-38A, F.2.1.
func TestExample(t *testing.T) {
	got, e := cbc.Chain(bin("2b7e151628aed2a6abf7158809cf4f3c"), bin("000102030405060708090a0b0c0d0e0f"), bin("6bc1bee22e409f96e93d7e117393172aae2d8a571e03ac9c9eb76fac45af8e51"))
	if e != api.OK || got != bin("7649abac8119b246cee98e9b12e9197d5086cb9b507219ee95db113a917678b2") {
		t.Errorf("%x, %v", got, e)
	}
}

// P6.2
func TestChain(t *testing.T) {
	r := rand.New(rand.NewSource(2))
	for i := range 200 {
		key, iv, s := text(r, 16+8*(i%3)), text(r, 16), text(r, 16*r.Intn(20))
		made, e := cbc.Chain(key, iv, s)
		if e != api.OK || made != std(key, iv, s) {
			t.Fatalf("%x %x %x: %x, %v", key, iv, s, made, e)
		}
		if back, e := cbc.Unchain(key, iv, made); e != api.OK || back != s {
			t.Fatalf("%x %x %x: %x, %v", key, iv, s, back, e)
		}
		back, _ := cbc.Unchain(key, iv, s)
		if got, _ := cbc.Chain(key, iv, back); got != s {
			t.Fatalf("%x %x %x: %x", key, iv, s, got)
		}
	}
}

// P6.2, P6.3: the errors, their order, and the edges of lengths.
func TestErrors(t *testing.T) {
	type call func(key, iv, text string) (string, api.Errno)
	chains := []call{cbc.Chain, cbc.Unchain}
	for _, c := range []struct {
		calls        []call
		key, iv, len int
		e            api.Errno
	}{
		{[]call{cbc.Chain, cbc.Unchain, cbc.Seal, cbc.Open}, 15, 3, 1 << 17, api.ErrKey}, {[]call{cbc.Chain, cbc.Unchain, cbc.Seal, cbc.Open}, 0, 16, 16, api.ErrKey},
		{[]call{cbc.Chain, cbc.Unchain, cbc.Seal, cbc.Open}, 33, 16, 16, api.ErrKey}, {[]call{cbc.Chain, cbc.Unchain, cbc.Seal, cbc.Open}, 32, 15, 1<<17 + 1, api.ErrIV},
		{[]call{cbc.Chain, cbc.Unchain, cbc.Seal, cbc.Open}, 24, 17, 16, api.ErrIV}, {[]call{cbc.Chain, cbc.Unchain, cbc.Seal, cbc.Open}, 16, 0, 16, api.ErrIV},
		{chains, 16, 16, 15, api.ErrSize}, {chains, 16, 16, 17, api.ErrSize}, {chains, 16, 16, 0, api.OK}, {chains, 16, 16, api.MaxText + 16, api.OK}, {chains, 16, 16, api.MaxText + 32, api.ErrSize},
		{[]call{cbc.Seal}, 16, 16, api.MaxText, api.OK}, {[]call{cbc.Seal}, 16, 16, api.MaxText + 1, api.ErrSize}, {[]call{cbc.Seal}, 16, 16, 0, api.OK}, {[]call{cbc.Seal}, 16, 16, 1, api.OK},
		{[]call{cbc.Open}, 16, 16, 0, api.ErrSize}, {[]call{cbc.Open}, 16, 16, 15, api.ErrSize}, {[]call{cbc.Open}, 16, 16, api.MaxText + 32, api.ErrSize}, {[]call{cbc.Open}, 16, 16, api.MaxText + 17, api.ErrSize},
	} {
		for i, f := range c.calls {
			if got, e := f(strings.Repeat("k", c.key), strings.Repeat("i", c.iv), strings.Repeat("t", c.len)); e != c.e || e != api.OK && got != "" {
				t.Error(i, c.key, c.iv, c.len, len(got), e)
			}
		}
	}
}

// P6.3
func TestSeal(t *testing.T) {
	r := rand.New(rand.NewSource(3))
	for n := range 100 {
		key, iv, s := text(r, 16+8*(n%3)), text(r, 16), text(r, n)
		padded, _ := cbc.Pad(s, 16)
		made, e := cbc.Seal(key, iv, s)
		if e != api.OK || made != std(key, iv, padded) {
			t.Fatalf("%d: %x, %v", n, made, e)
		}
		if got, e := cbc.Open(key, iv, made); e != api.OK || got != s {
			t.Fatalf("%d: %x, %v", n, got, e)
		}
	}
	long := strings.Repeat("t", api.MaxText)
	made, e := cbc.Seal("0123456789abcdef", iv16, long)
	if got, e2 := cbc.Open("0123456789abcdef", iv16, made); e != api.OK || e2 != api.OK || got != long || len(made) != api.MaxText+16 {
		t.Error(len(made), e, len(got), e2)
	}
}

// P6.3: a padding that is none.
func TestOpenPad(t *testing.T) {
	key := "0123456789abcdef"
	for _, c := range []struct {
		last string
		want string
		e    api.Errno
	}{{"abcdefghijklmno\x00", "", api.ErrPad}, {"abcdefghijklmno\x11", "", api.ErrPad}, {"abcdefghijklmn\x01\x02", "", api.ErrPad}, {"abcdefghijklmn\x02\x02", "abcdefghijklmn", api.OK}} {
		if got, e := cbc.Open(key, iv16, std(key, iv16, c.last)); got != c.want || e != c.e {
			t.Errorf("%q: %q, %v", c.last, got, e)
		}
	}
}

// P6.4
func TestMac(t *testing.T) {
	r := rand.New(rand.NewSource(4))
	noughts := strings.Repeat("\x00", 16)
	for n := range 100 {
		key, s := text(r, 16+8*(n%3)), text(r, n)
		filled := s
		for len(filled)%16 != 0 {
			filled += "\x00"
		}
		want := (noughts + std(key, noughts, filled))[len(filled):]
		if got, e := cbc.Mac(key, s); e != api.OK || got != want {
			t.Fatalf("%d: %x, %v", n, got, e)
		}
	}
	for _, c := range []struct {
		key, n int
		e      api.Errno
	}{{16, 2 * api.MaxText, api.OK}, {16, 2*api.MaxText + 1, api.ErrSize}, {17, 2*api.MaxText + 1, api.ErrKey}, {0, 0, api.ErrKey}, {16, 0, api.OK}} {
		if got, e := cbc.Mac(strings.Repeat("k", c.key), strings.Repeat("t", c.n)); e != c.e || (e == api.OK) != (len(got) == 16) {
			t.Error(c, got, e)
		}
	}
	if got, _ := cbc.Mac("0123456789abcdef", ""); got != noughts {
		t.Errorf("%x", got)
	}
}
