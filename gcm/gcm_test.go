package gcm_test

import (
	stdaes "crypto/aes"
	"crypto/cipher"
	"encoding/hex"
	"math/rand"
	"strings"
	"testing"

	"pyxis/api"
	"pyxis/gcm"
	"pyxis/ghash"
)

func text(r *rand.Rand, n int) string {
	b := make([]byte, n)
	r.Read(b)
	return string(b)
}

func bin(s string) string {
	b, err := hex.DecodeString(s)
	if err != nil {
		panic(err)
	}
	return string(b)
}

// std seals with the library: with a tag of its own length for an IV of 12 bytes, else with 16 bytes, which are cut.
func std(key, iv, aad, s string, size int) string {
	block, err := stdaes.NewCipher([]byte(key))
	if err != nil {
		panic(err)
	}
	g, err := cipher.NewGCMWithNonceSize(block, len(iv))
	if err != nil {
		panic(err)
	}
	out := g.Seal(nil, []byte(iv), []byte(s), []byte(aad))
	return string(out[:len(s)+size])
}

// P9.2, P9.3: the chapter's example, and test cases 2, 4 and 6 of the specification of GCM.
func TestExamples(t *testing.T) {
	key := "feffe9928665731c6d6a8f9467308308"
	plain := "d9313225f88406e5a55909c5aff5269a86a7a9531534f7da2e4c303d8a318a721c3c0c95956809532fcf0e2449a6b525b16aedf5aa0de657ba637b39"
	aad := "feedfacedeadbeeffeedfacedeadbeefabaddad2"
	for _, c := range [][5]string{
		{strings.Repeat("00", 16), strings.Repeat("00", 12), "", "", "58e2fccefa7e3061367f1d57a4e7455a"},
		{strings.Repeat("00", 16), strings.Repeat("00", 12), "", strings.Repeat("00", 16), "0388dace60b6a392f328c2b971b2fe78ab6e47d42cec13bdf53a67b21257bddf"},
		{key, "cafebabefacedbaddecaf888", aad, plain, "42831ec2217774244b7221b784d0d49ce3aa212f2c02a4e035c17e2329aca12e21d514b25466931c7d8f6a5aac84aa051ba30b396a0aac973d58e0915bc94fbc3221a5db94fae95ae7121a47"},
		{key, "9313225df88406e555909c5aff5269aa6a7a9538534f7da1e4c303d2a318a728c3c0c95156809539fcf0e2429a6b525416aedbf5a0de6a57a637b39b", aad, plain, "8ce24998625615b603a033aca13fb894be9112a5c3a211a8ba262a3cca7e2ca701e4a9a4fba43c90ccdcb281d48c7c6fd62875d2aca417034c34aee5619cc5aefffe0bfa462af43c1699d050"},
	} {
		got, e := gcm.Seal(bin(c[0]), bin(c[1]), bin(c[2]), bin(c[3]), 16)
		if e != api.OK || got != bin(c[4]) {
			t.Errorf("%x, %v", got, e)
		}
		if got, e := gcm.Open(bin(c[0]), bin(c[1]), bin(c[2]), bin(c[4]), 16); e != api.OK || got != bin(c[3]) {
			t.Errorf("%x, %v", got, e)
		}
	}
}

// P9.2 to P9.4
func TestSeal(t *testing.T) {
	r := rand.New(rand.NewSource(1))
	for i := range 400 {
		key, iv := text(r, 16+8*(i%3)), text(r, 12)
		if i%2 == 0 {
			iv = text(r, 1+r.Intn(100))
		}
		aad, s, size := text(r, r.Intn(100)), text(r, r.Intn(100)), 12+r.Intn(5)
		want := std(key, iv, aad, s, size)
		sealed, e := gcm.Seal(key, iv, aad, s, size)
		if e != api.OK || sealed != want {
			t.Fatalf("Seal(%x, %x, %x, %x, %d) = %x, %v", key, iv, aad, s, size, sealed, e)
		}
		if tag, e := gcm.Tag(key, iv, aad, want[:len(s)], size); e != api.OK || tag != want[len(s):] {
			t.Fatalf("Tag: %x, %v", tag, e)
		}
		if back, e := gcm.Open(key, iv, aad, sealed, size); e != api.OK || back != s {
			t.Fatalf("Open: %x, %v", back, e)
		}
	}
}

// P9.3: the counter goes round in its last four bytes alone. Its IV is reckoned back from it.
func TestRound(t *testing.T) {
	r := rand.New(rand.NewSource(2))
	mul := func(a, b string) string {
		out, _ := ghash.Mul(a, b)
		return out
	}
	for range 40 {
		key := text(r, 16)
		block, _ := stdaes.NewCipher([]byte(key))
		h := make([]byte, 16)
		block.Encrypt(h, h)
		inverse, power := "\x80"+strings.Repeat("\x00", 15), string(h)
		for range 127 { // the power of 2^128 - 2
			power = mul(power, power)
			inverse = mul(inverse, power)
		}
		iv := []byte(mul(text(r, 12)+"\xff\xff\xff"+string([]byte{byte(250 + r.Intn(6))}), inverse))
		iv[15] ^= 128 // the number of its bits
		at := mul(string(iv), inverse)
		s := text(r, 16*12)
		if got, e := gcm.Seal(key, at, "", s, 16); e != api.OK || got != std(key, at, "", s, 16) {
			t.Fatalf("%x %x: %v", key, at, e)
		}
	}
}

// P9.4: whatever is changed.
func TestChanged(t *testing.T) {
	key, iv, aad := "0123456789abcdef", "iviviviviviv", "aad"
	for _, size := range []int{12, 16} {
		sealed, _ := gcm.Seal(key, iv, aad, "a text of some bytes", size)
		for i := range len(sealed) {
			for bit := range 8 {
				b := []byte(sealed)
				b[i] ^= 1 << bit
				if got, e := gcm.Open(key, iv, aad, string(b), size); got != "" || e != api.ErrAuth {
					t.Fatal(i, bit, got, e)
				}
			}
		}
		for _, c := range [][3]string{{"0123456789abcdeg", iv, aad}, {key, "iviviviviviw", aad}, {key, iv + "\x00", aad}, {key, iv, "aae"}, {key, iv, ""}, {key, iv, "aad\x00"}} {
			if got, e := gcm.Open(c[0], c[1], c[2], sealed, size); got != "" || e != api.ErrAuth {
				t.Error(c, got, e)
			}
		}
		if got, e := gcm.Open(key, iv, aad, sealed[1:], size); got != "" || e != api.ErrAuth {
			t.Error(got, e)
		}
		if got, e := gcm.Open(key, iv, aad, sealed+"x", size); got != "" || e != api.ErrAuth {
			t.Error(got, e)
		}
	}
	// A text that another one's tag is made for is opened.
	other := "any sealed bytes"
	tag, _ := gcm.Tag(key, iv, aad, other, 13)
	if got, e := gcm.Open(key, iv, aad, other+tag, 13); e != api.OK || len(got) != len(other) {
		t.Error(got, e)
	}
}

// P9.1
func TestErrors(t *testing.T) {
	over := api.MaxText + 1
	for _, c := range []struct {
		key, iv, size, aad, text int
		e                        api.Errno // of Tag and Seal
		open                     api.Errno
	}{
		{15, 0, 0, over, over, api.ErrKey, api.ErrKey}, {0, 12, 16, 0, 16, api.ErrKey, api.ErrKey}, {64, 12, 16, 0, 16, api.ErrKey, api.ErrKey},
		{16, 0, 0, over, over, api.ErrIV, api.ErrIV}, {16, 1025, 11, over, over, api.ErrIV, api.ErrIV}, {16, 1024, 16, 0, 16, api.OK, api.ErrAuth}, {24, 1, 16, 0, 16, api.OK, api.ErrAuth},
		{32, 12, 11, over, over, api.ErrTag, api.ErrTag}, {32, 12, 17, over, over, api.ErrTag, api.ErrTag}, {32, 12, -1, 0, 0, api.ErrTag, api.ErrTag}, {32, 12, 1 << 40, 0, 0, api.ErrTag, api.ErrTag},
		{16, 12, 12, over, 16, api.ErrSize, api.ErrSize}, {16, 12, 12, api.MaxText, 16, api.OK, api.ErrAuth},
		{16, 12, 12, 0, over, api.ErrSize, api.ErrAuth}, {16, 12, 12, 0, api.MaxText, api.OK, api.ErrAuth}, {16, 12, 12, api.MaxText, api.MaxText, api.OK, api.ErrAuth},
		{16, 12, 12, 0, api.MaxText + 12, api.ErrSize, api.ErrAuth}, {16, 12, 12, 0, api.MaxText + 13, api.ErrSize, api.ErrSize}, {16, 12, 16, 0, api.MaxText + 16, api.ErrSize, api.ErrAuth}, {16, 12, 16, 0, api.MaxText + 17, api.ErrSize, api.ErrSize},
		{16, 12, 16, 0, 15, api.OK, api.ErrSize}, {16, 12, 12, 0, 11, api.OK, api.ErrSize}, {16, 12, 12, 0, 12, api.OK, api.ErrAuth}, {16, 12, 12, 0, 0, api.OK, api.ErrSize},
	} {
		key, iv, aad, s := strings.Repeat("k", c.key), strings.Repeat("i", c.iv), strings.Repeat("a", c.aad), strings.Repeat("t", c.text)
		if got, e := gcm.Tag(key, iv, aad, s, c.size); e != c.e || e != api.OK && got != "" || e == api.OK && len(got) != c.size {
			t.Error("Tag", c, len(got), e)
		}
		if got, e := gcm.Seal(key, iv, aad, s, c.size); e != c.e || e != api.OK && got != "" || e == api.OK && len(got) != c.size+c.text {
			t.Error("Seal", c, len(got), e)
		}
		if got, e := gcm.Open(key, iv, aad, s, c.size); e != c.open || got != "" {
			t.Error("Open", c, len(got), e)
		}
	}
}

// P9.4: the longest of all.
func TestLongest(t *testing.T) {
	key, iv := "0123456789abcdef", strings.Repeat("i", 1024)
	aad, s := strings.Repeat("a", api.MaxText), strings.Repeat("t", api.MaxText)
	sealed, e := gcm.Seal(key, iv, aad, s, 16)
	if e != api.OK || sealed != std(key, iv, aad, s, 16) {
		t.Fatal(e)
	}
	if got, e := gcm.Open(key, iv, aad, sealed, 16); e != api.OK || got != s {
		t.Error(e)
	}
}
