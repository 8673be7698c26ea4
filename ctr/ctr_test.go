package ctr_test

import (
	stdaes "crypto/aes"
	"crypto/cipher"
	"encoding/hex"
	"math/big"
	"math/rand"
	"strings"
	"testing"

	"pyxis/api"
	"pyxis/ctr"
)

func text(r *rand.Rand, n int) string {
	b := make([]byte, n)
	r.Read(b)
	return string(b)
}

func bin(s string) string {
	b, err := hex.DecodeString(s)
	if err != nil {
		panic(err)
	}
	return string(b)
}

// slowNext is Next by numbers of any length.
func slowNext(start string, width int, n uint64) string {
	sum := new(big.Int).SetBytes([]byte(start[16-width:]))
	sum.Add(sum, new(big.Int).SetUint64(n))
	sum.Mod(sum, new(big.Int).Lsh(big.NewInt(1), uint(8*width)))
	return start[:16-width] + string(sum.FillBytes(make([]byte, width)))
}

// P7.1
func TestNext(t *testing.T) {
	full := strings.Repeat("\xff", 16)
	for _, c := range []struct {
		start string
		width int
		n     uint64
		want  string
		e     api.Errno
	}{
		{full, 1, 1, full[1:] + "\x00", api.OK}, {full, 4, 2, full[4:] + "\x00\x00\x00\x01", api.OK}, {full, 16, 1, strings.Repeat("\x00", 16), api.OK}, {full, 16, 0, full, api.OK}, {full, 1, 256, full, api.OK},
		{"", 1, 1, "", api.ErrIV}, {full[1:], 0, 1, "", api.ErrIV}, {full + "x", 1, 1, "", api.ErrIV}, {full, 0, 1, "", api.ErrArg}, {full, 17, 1, "", api.ErrArg}, {full, -1, 1, "", api.ErrArg}, {full, -1 << 63, 1, "", api.ErrArg},
	} {
		if got, e := ctr.Next(c.start, c.width, c.n); got != c.want || e != c.e {
			t.Errorf("Next(%x, %d, %d) = %x, %v", c.start, c.width, c.n, got, e)
		}
	}
	r := rand.New(rand.NewSource(1))
	for range 2000 {
		width := 1 + r.Intn(16)
		k := r.Intn(17)
		start, n := text(r, 16-k)+full[:k], r.Uint64()>>r.Intn(64)
		if got, e := ctr.Next(start, width, n); e != api.OK || got != slowNext(start, width, n) {
			t.Fatalf("Next(%x, %d, %d) = %x, %v", start, width, n, got, e)
		}
	}
}

// P7.2: SP 800-38A, F.5.1.
func TestExample(t *testing.T) {
	got, e := ctr.Xor(bin("2b7e151628aed2a6abf7158809cf4f3c"), bin("f0f1f2f3f4f5f6f7f8f9fafbfcfdfeff"), 16, bin("6bc1bee22e409f96e93d7e117393172aae2d8a571e03ac9c9eb76fac45af8e51"))
	if e != api.OK || got != bin("874d6191b620e3261bef6864990db6ce9806f66b7970fdff8617187bb9fffdff") {
		t.Errorf("%x, %v", got, e)
	}
}

// P7.2: widths below 16 go round without touching what stands ahead.
func TestXor(t *testing.T) {
	r := rand.New(rand.NewSource(2))
	for i := range 300 {
		key, width, s := text(r, 16+8*(i%3)), 1+r.Intn(16), text(r, r.Intn(200))
		k := r.Intn(17)
		start := text(r, 16-k) + strings.Repeat("\xff", k)
		block, _ := stdaes.NewCipher([]byte(key))
		want := []byte(s)
		for at := 0; at < len(s); at += 16 {
			made := make([]byte, 16)
			block.Encrypt(made, []byte(slowNext(start, width, uint64(at/16))))
			for n := 0; n < 16 && at+n < len(s); n++ {
				want[at+n] ^= made[n]
			}
		}
		got, e := ctr.Xor(key, start, width, s)
		if e != api.OK || got != string(want) {
			t.Fatalf("Xor(%x, %x, %d, %x) = %x, %v", key, start, width, s, got, e)
		}
		if back, e := ctr.Xor(key, start, width, got); e != api.OK || back != s {
			t.Fatalf("%x, %v", back, e)
		}
	}
	long := text(r, api.MaxText)
	block, _ := stdaes.NewCipher([]byte("0123456789abcdef"))
	want := make([]byte, len(long))
	cipher.NewCTR(block, []byte("fedcba9876543210")).XORKeyStream(want, []byte(long))
	if got, e := ctr.Xor("0123456789abcdef", "fedcba9876543210", 16, long); e != api.OK || got != string(want) {
		t.Error(e)
	}
}

// P7.2
func TestErrors(t *testing.T) {
	for _, c := range []struct {
		key, start, width, n int
		e                    api.Errno
	}{
		{16, 16, 1, 0, api.OK}, {16, 16, 16, api.MaxText, api.OK}, {32, 16, 4, 1, api.OK},
		{15, 3, 0, api.MaxText + 1, api.ErrKey}, {0, 16, 1, 1, api.ErrKey}, {40, 16, 1, 1, api.ErrKey}, {16, 15, 0, api.MaxText + 1, api.ErrIV}, {16, 17, 1, 0, api.ErrIV}, {16, 0, 1, 0, api.ErrIV},
		{16, 16, 0, api.MaxText + 1, api.ErrArg}, {16, 16, 17, 0, api.ErrArg}, {16, 16, -5, 0, api.ErrArg}, {16, 16, 1, api.MaxText + 1, api.ErrSize},
	} {
		got, e := ctr.Xor(strings.Repeat("k", c.key), strings.Repeat("s", c.start), c.width, strings.Repeat("t", c.n))
		if e != c.e || e != api.OK && got != "" || e == api.OK && len(got) != c.n {
			t.Error(c, len(got), e)
		}
	}
}

// P7.3
func TestRest(t *testing.T) {
	r := rand.New(rand.NewSource(3))
	for i := range 200 {
		key, start, width, s := text(r, 16+8*(i%3)), strings.Repeat("\xff", 16), 1+r.Intn(16), text(r, r.Intn(300))
		whole, _ := ctr.Xor(key, start, width, s)
		n := r.Intn(len(s)/16 + 1)
		next, _ := ctr.Next(start, width, uint64(n))
		if rest, e := ctr.Xor(key, next, width, s[16*n:]); e != api.OK || rest != whole[16*n:] {
			t.Fatalf("%d, %d: %x, %v", width, n, rest, e)
		}
	}
}
