package ghash_test

import (
	"encoding/hex"
	"math/rand"
	"strings"
	"testing"

	"pyxis/api"
	"pyxis/ghash"
)

func text(r *rand.Rand, n int) string {
	b := make([]byte, n)
	r.Read(b)
	return string(b)
}

func bin(s string) string {
	b, err := hex.DecodeString(s)
	if err != nil {
		panic(err)
	}
	return string(b)
}

func xor(a, b string) string {
	out := []byte(a)
	for i := range out {
		out[i] ^= b[i]
	}
	return string(out)
}

// slowMul is the product by the field's words: of all pairs of powers, and what is left of them.
func slowMul(a, b string) string {
	var product [255]byte
	bit := func(s string, i int) byte { return s[i/8] >> (7 - i%8) & 1 }
	for i := range 128 {
		if bit(a, i) == 0 {
			continue
		}
		for j := range 128 {
			product[i+j] ^= bit(b, j)
		}
	}
	for i := 254; i >= 128; i-- {
		if product[i] == 1 {
			for _, n := range []int{0, 1, 2, 7} {
				product[i-128+n] ^= 1
			}
		}
	}
	out := make([]byte, 16)
	for i := range 128 {
		out[i/8] |= product[i] << (7 - i%8)
	}
	return string(out)
}

var noughts = strings.Repeat("\x00", 16)
var one = "\x80" + noughts[1:]

// P8.1
func TestMul(t *testing.T) {
	r := rand.New(rand.NewSource(1))
	for range 300 {
		a, b := text(r, 16), text(r, 16)
		if r.Intn(3) == 0 {
			b = noughts[:r.Intn(16)] + "\x01" + noughts
			b = b[:16]
		}
		if got, e := ghash.Mul(a, b); e != api.OK || got != slowMul(a, b) {
			t.Fatalf("Mul(%x, %x) = %x, %v", a, b, got, e)
		}
		if got, _ := ghash.Mul(a, one); got != a {
			t.Fatalf("%x", got)
		}
		if got, _ := ghash.Mul(one, a); got != a {
			t.Fatalf("%x", got)
		}
		if got, _ := ghash.Mul(a, noughts); got != noughts {
			t.Fatalf("%x", got)
		}
	}
	for i := range 128 { // each single bit, by the highest power
		a := []byte(noughts)
		a[i/8] = 0x80 >> (i % 8)
		last := noughts[:15] + "\x01"
		if got, _ := ghash.Mul(string(a), last); got != slowMul(string(a), last) {
			t.Fatalf("%d: %x", i, got)
		}
		if got, _ := ghash.Mul(last, string(a)); got != slowMul(string(a), last) {
			t.Fatalf("%d: %x", i, got)
		}
	}
	for _, c := range [][2]int{{15, 16}, {16, 15}, {0, 0}, {17, 16}, {16, 0}, {16, 32}} {
		if got, e := ghash.Mul(strings.Repeat("a", c[0]), strings.Repeat("b", c[1])); got != "" || e != api.ErrSize {
			t.Error(c, got, e)
		}
	}
}

// P8.2
func TestSum(t *testing.T) {
	// Test case 2 of the specification of GCM.
	if got, e := ghash.Sum(bin("66e94bd4ef8a2c3b884cfa59ca342b2e"), bin("0388dace60b6a392f328c2b971b2fe7800000000000000000000000000000080")); e != api.OK || got != bin("f38cbb1ad69223dcc3457ae5b6b0f885") {
		t.Errorf("%x, %v", got, e)
	}
	if got, e := ghash.Sum("0123456789abcdef", ""); e != api.OK || got != noughts {
		t.Errorf("%x, %v", got, e)
	}
	r := rand.New(rand.NewSource(2))
	for range 100 {
		key, s := text(r, 16), text(r, 16*r.Intn(8))
		want := noughts
		for at := 0; at < len(s); at += 16 {
			want = slowMul(xor(want, s[at:at+16]), key)
		}
		if got, e := ghash.Sum(key, s); e != api.OK || got != want {
			t.Fatalf("Sum(%x, %x) = %x, %v", key, s, got, e)
		}
	}
	for _, c := range []struct {
		key, n int
		e      api.Errno
	}{
		{15, 1, api.ErrKey}, {17, 0, api.ErrKey}, {0, 0, api.ErrKey}, {16, 1, api.ErrSize}, {16, 15, api.ErrSize}, {16, 17, api.ErrSize},
		{16, 3 * api.MaxText, api.OK}, {16, 3*api.MaxText + 16, api.ErrSize}, {16, 3*api.MaxText + 1, api.ErrSize}, {24, 3*api.MaxText + 16, api.ErrKey},
	} {
		if got, e := ghash.Sum(strings.Repeat("k", c.key), strings.Repeat("t", c.n)); e != c.e || (e == api.OK) != (len(got) == 16) {
			t.Error(c, got, e)
		}
	}
}

// P8.3
func TestLaws(t *testing.T) {
	mul := func(a, b string) string {
		out, _ := ghash.Mul(a, b)
		return out
	}
	r := rand.New(rand.NewSource(3))
	for range 200 {
		a, b, c := text(r, 16), text(r, 16), text(r, 16)
		if mul(a, b) != mul(b, a) || mul(mul(a, b), c) != mul(a, mul(b, c)) || mul(xor(a, b), c) != xor(mul(a, c), mul(b, c)) {
			t.Fatalf("%x %x %x", a, b, c)
		}
		n := 16 * r.Intn(6)
		s, u := text(r, n), text(r, n)
		x, _ := ghash.Sum(a, s)
		y, _ := ghash.Sum(a, u)
		if got, e := ghash.Sum(a, xor(s, u)); e != api.OK || got != xor(x, y) {
			t.Fatalf("%x %x %x: %x, %v", a, s, u, got, e)
		}
	}
}
