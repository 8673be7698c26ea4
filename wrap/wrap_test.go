package wrap_test

import (
	stdaes "crypto/aes"
	"encoding/hex"
	"math/rand"
	"strings"
	"testing"

	"pyxis/api"
	"pyxis/wrap"
)

func text(r *rand.Rand, n int) string {
	b := make([]byte, n)
	r.Read(b)
	return string(b)
}

func bin(s string) string {
	b, err := hex.DecodeString(s)
	if err != nil {
		panic(err)
	}
	return string(b)
}

// slow wraps by RFC 3394's indices (2.2.1), with any value.
func slow(key, value, s string) string {
	block, err := stdaes.NewCipher([]byte(key))
	if err != nil {
		panic(err)
	}
	n := len(s) / 8
	out := []byte(value + s)
	for j := range 6 {
		for i := 1; i <= n; i++ {
			b := append(append([]byte{}, out[:8]...), out[8*i:8*i+8]...)
			block.Encrypt(b, b)
			t := n*j + i
			for k := range 8 {
				b[7-k] ^= byte(t >> (8 * k))
			}
			copy(out, b[:8])
			copy(out[8*i:], b[8:])
		}
	}
	return string(out)
}

const value = "\xa6\xa6\xa6\xa6\xa6\xa6\xa6\xa6"

// P12.1, P12.2: RFC 3394, 4.1, 4.3 and 4.6.
func TestExamples(t *testing.T) {
	for _, c := range [][3]string{
		{"000102030405060708090a0b0c0d0e0f", "00112233445566778899aabbccddeeff", "1fa68b0a8112b447aef34bd8fb5a7b829d3e862371d2cfe5"},
		{"000102030405060708090a0b0c0d0e0f101112131415161718191a1b1c1d1e1f", "00112233445566778899aabbccddeeff", "64e8c3f9ce0f5ba263e9777905818a2a93c8191e7d6e8ae7"},
		{"000102030405060708090a0b0c0d0e0f101112131415161718191a1b1c1d1e1f", "00112233445566778899aabbccddeeff000102030405060708090a0b0c0d0e0f", "28c9f404c4b810f4cbccb35cfb87f8263f5786e2d80ed326cbc7f0e71a99f43bfb988b9b7a02dd21"},
	} {
		if got, e := wrap.Wrap(bin(c[0]), bin(c[1])); e != api.OK || got != bin(c[2]) {
			t.Errorf("%x, %v", got, e)
		}
		if got, e := wrap.Unwrap(bin(c[0]), bin(c[2])); e != api.OK || got != bin(c[1]) {
			t.Errorf("%x, %v", got, e)
		}
	}
}

// P12.1 to P12.3
func TestWrap(t *testing.T) {
	r := rand.New(rand.NewSource(1))
	for i := range 200 {
		key, s := text(r, 16+8*(i%3)), text(r, 8*(2+r.Intn(20)))
		if i < 3 {
			s = text(r, api.MaxWrap) // t takes two bytes there
		}
		wrapped, e := wrap.Wrap(key, s)
		if e != api.OK || wrapped != slow(key, value, s) {
			t.Fatalf("%x %x: %x, %v", key, s, wrapped, e)
		}
		if got, e := wrap.Unwrap(key, wrapped); e != api.OK || got != s {
			t.Fatalf("%x, %v", got, e)
		}
		other := text(r, 8)
		if a, rest, e := wrap.Value(key, slow(key, other, s)); e != api.OK || a != other || rest != s {
			t.Fatalf("%x, %x, %v", a, rest, e)
		}
		if got, e := wrap.Unwrap(key, slow(key, other, s)); got != "" || e != api.ErrAuth {
			t.Fatalf("%x, %v", got, e)
		}
	}
}

// P12.1, P12.2
func TestErrors(t *testing.T) {
	for _, c := range []struct {
		key, n  int
		in, out api.Errno
	}{
		{15, 3, api.ErrKey, api.ErrKey}, {0, 24, api.ErrKey, api.ErrKey}, {33, 24, api.ErrKey, api.ErrKey},
		{16, 0, api.ErrSize, api.ErrSize}, {16, 8, api.ErrSize, api.ErrSize}, {16, 15, api.ErrSize, api.ErrSize}, {24, 16, api.OK, api.ErrSize}, {24, 17, api.ErrSize, api.ErrSize}, {32, 24, api.OK, api.ErrAuth}, {16, 28, api.ErrSize, api.ErrSize},
		{16, 1024, api.OK, api.ErrAuth}, {16, 1032, api.ErrSize, api.ErrAuth}, {16, 1028, api.ErrSize, api.ErrSize}, {16, 1040, api.ErrSize, api.ErrSize},
	} {
		key, s := strings.Repeat("k", c.key), strings.Repeat("t", c.n)
		if got, e := wrap.Wrap(key, s); e != c.in || e != api.OK && got != "" || e == api.OK && len(got) != c.n+8 {
			t.Error("Wrap", c, len(got), e)
		}
		if got, e := wrap.Unwrap(key, s); e != c.out || got != "" {
			t.Error("Unwrap", c, len(got), e)
		}
		want := c.out
		if want == api.ErrAuth {
			want = api.OK
		}
		if a, rest, e := wrap.Value(key, s); e != want || e != api.OK && a+rest != "" || e == api.OK && (len(a) != 8 || len(rest) != c.n-8) {
			t.Error("Value", c, len(a), len(rest), e)
		}
	}
}

// P12.2: whatever is changed.
func TestChanged(t *testing.T) {
	key := "0123456789abcdef01234567"
	wrapped, _ := wrap.Wrap(key, strings.Repeat("secret..", 5))
	for i := range len(wrapped) {
		b := []byte(wrapped)
		b[i] ^= 1 << (i % 8)
		if got, e := wrap.Unwrap(key, string(b)); got != "" || e != api.ErrAuth {
			t.Error(i, got, e)
		}
	}
	if got, e := wrap.Unwrap("x"+key[1:], wrapped); got != "" || e != api.ErrAuth {
		t.Error(got, e)
	}
	if got, e := wrap.Unwrap(key, wrapped[:40]); got != "" || e != api.ErrAuth {
		t.Error(got, e)
	}
}
