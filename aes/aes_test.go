package aes_test

import (
	stdaes "crypto/aes"
	"encoding/binary"
	"encoding/hex"
	"math/rand"
	"strings"
	"sync"
	"testing"

	"pyxis/aes"
	"pyxis/api"
)

func text(r *rand.Rand, n int) string {
	b := make([]byte, n)
	r.Read(b)
	return string(b)
}

func bin(s string) string {
	b, err := hex.DecodeString(strings.ReplaceAll(s, " ", ""))
	if err != nil {
		panic(err)
	}
	return string(b)
}

// slowMul is the product by the field's words: a product of polynomials, and what is left of it.
func slowMul(a, b byte) byte {
	product := 0
	for i := range 8 {
		if b>>i&1 == 1 {
			product ^= int(a) << i
		}
	}
	for i := 15; i >= 8; i-- {
		if product>>i&1 == 1 {
			product ^= 0x11b << (i - 8)
		}
	}
	return byte(product)
}

// P2.1
func TestMul(t *testing.T) {
	if got := aes.Mul(0x57, 0x83); got != 0xc1 {
		t.Errorf("%x", got)
	}
	for a := range 256 {
		for b := range 256 {
			if got := aes.Mul(byte(a), byte(b)); got != slowMul(byte(a), byte(b)) {
				t.Fatalf("Mul(%x, %x) = %x", a, b, got)
			}
		}
	}
}

// P2.1
func TestSub(t *testing.T) {
	if aes.Sub(0) != 99 || aes.Sub(0x53) != 0xed || aes.Sub(1) != 0x7c || aes.Sub(0xff) != 0x16 {
		t.Error(aes.Sub(0), aes.Sub(0x53), aes.Sub(1), aes.Sub(0xff))
	}
	for b := range 256 {
		inverse := byte(0)
		for c := range 256 {
			if slowMul(byte(b), byte(c)) == 1 {
				inverse = byte(c)
			}
		}
		want := inverse ^ 99
		for n := 1; n <= 4; n++ {
			want ^= inverse<<n | inverse>>(8-n)
		}
		if got := aes.Sub(byte(b)); got != want {
			t.Errorf("Sub(%x) = %x, not %x", b, got, want)
		}
	}
}

// P2.2: the round words of FIPS 197, appendix A.
func TestExpand(t *testing.T) {
	for _, c := range []struct {
		key   string
		n     int
		at    int
		words []uint32
	}{
		{"2b7e151628aed2a6abf7158809cf4f3c", 44, 4, []uint32{0xa0fafe17, 0x88542cb1, 0x23a33939, 0x2a6c7605}},
		{"2b7e151628aed2a6abf7158809cf4f3c", 44, 40, []uint32{0xd014f9a8, 0xc9ee2589, 0xe13f0cc8, 0xb6630ca6}},
		{"8e73b0f7da0e6452c810f32b809079e562f8ead2522c6b7b", 52, 48, []uint32{0xe98ba06f, 0x448c773c, 0x8ecc7204, 0x01002202}},
		{"603deb1015ca71be2b73aef0857d77811f352c073b6108d72d9810a30914dff4", 60, 56, []uint32{0xfe4890d1, 0xe6188d0b, 0x046df344, 0x706c631e}},
	} {
		key := bin(c.key)
		words, e := aes.Expand(key)
		if e != api.OK || len(words) != c.n {
			t.Fatal(c.key, len(words), e)
		}
		for i, w := range c.words {
			if words[c.at+i] != w {
				t.Errorf("%s: word %d is %08x, not %08x", c.key, c.at+i, words[c.at+i], w)
			}
		}
		for i := range len(key) / 4 {
			if words[i] != binary.BigEndian.Uint32([]byte(key[4*i:])) {
				t.Errorf("%s: word %d is not the key's", c.key, i)
			}
		}
		words = append(words, 7)
		words[0]++
		if again, _ := aes.Expand(key); again[0] != words[0]-1 {
			t.Error("what was answered is shared")
		}
	}
}

// P2.2
func TestKeys(t *testing.T) {
	for n := range 70 {
		key := strings.Repeat("k", n)
		words, e := aes.Expand(key)
		c, e2 := aes.New(key)
		if right := n == 16 || n == 24 || n == 32; right {
			if e != api.OK || e2 != api.OK || c == nil || len(words) != n+28 {
				t.Error(n, e, e2)
			}
		} else if e != api.ErrKey || e2 != api.ErrKey || c != nil || words != nil {
			t.Error(n, e, e2, c, words)
		}
	}
}

// P2.3: FIPS 197, appendix C.
func TestExamples(t *testing.T) {
	block := bin("00112233445566778899aabbccddeeff")
	for _, c := range [][2]string{
		{"000102030405060708090a0b0c0d0e0f", "69c4e0d86a7b0430d8cdb78070b4c55a"},
		{"000102030405060708090a0b0c0d0e0f1011121314151617", "dda97ca4864cdfe06eaf70a0ec0d7191"},
		{"000102030405060708090a0b0c0d0e0f101112131415161718191a1b1c1d1e1f", "8ea2b7ca516745bfeafc49904b496089"},
	} {
		cipher, _ := aes.New(bin(c[0]))
		if got, e := cipher.Encrypt(block); e != api.OK || got != bin(c[1]) {
			t.Errorf("%x, %v", got, e)
		}
		if got, e := cipher.Decrypt(bin(c[1])); e != api.OK || got != block {
			t.Errorf("%x, %v", got, e)
		}
	}
}

// P2.3
func TestBothWays(t *testing.T) {
	r := rand.New(rand.NewSource(1))
	for i := range 300 {
		key, block := text(r, 16+8*(i%3)), text(r, 16)
		std, _ := stdaes.NewCipher([]byte(key))
		want := make([]byte, 16)
		std.Encrypt(want, []byte(block))
		c, _ := aes.New(key)
		if got, e := c.Encrypt(block); e != api.OK || got != string(want) {
			t.Fatalf("%x %x: %x, %v", key, block, got, e)
		}
		if got, e := c.Decrypt(string(want)); e != api.OK || got != block {
			t.Fatalf("%x %x: %x, %v", key, want, got, e)
		}
		back, _ := c.Decrypt(block)
		if got, _ := c.Encrypt(back); got != block {
			t.Fatalf("%x %x: %x", key, block, got)
		}
	}
}

// P2.3
func TestWrongAsks(t *testing.T) {
	right, _ := aes.New("0123456789abcdef")
	for _, c := range []struct {
		cipher *aes.Cipher
		n      int
		e      api.Errno
	}{{nil, 16, api.ErrNil}, {nil, 3, api.ErrNil}, {&aes.Cipher{}, 16, api.ErrNil}, {&aes.Cipher{}, 0, api.ErrNil}, {right, 0, api.ErrSize}, {right, 15, api.ErrSize}, {right, 17, api.ErrSize}, {right, 32, api.ErrSize}} {
		block := strings.Repeat("b", c.n)
		if got, e := c.cipher.Encrypt(block); got != "" || e != c.e {
			t.Error(c.n, got, e)
		}
		if got, e := c.cipher.Decrypt(block); got != "" || e != c.e {
			t.Error(c.n, got, e)
		}
	}
}

// P2.3: several ask at one time, the first decryption among them.
func TestAtOneTime(t *testing.T) {
	c, _ := aes.New("0123456789abcdef01234567")
	want, _ := c.Encrypt("fedcba9876543210")
	var group sync.WaitGroup
	for range 8 {
		group.Go(func() {
			for range 50 {
				if got, _ := c.Decrypt(want); got != "fedcba9876543210" {
					t.Errorf("%x", got)
				}
				if got, _ := c.Encrypt("fedcba9876543210"); got != want {
					t.Errorf("%x", got)
				}
			}
		})
	}
	group.Wait()
}
