package cbchs_test

import (
	stdaes "crypto/aes"
	"crypto/cipher"
	stdhmac "crypto/hmac"
	"crypto/sha256"
	"crypto/sha512"
	"encoding/binary"
	"encoding/hex"
	"hash"
	"math/rand"
	"strings"
	"testing"

	"pyxis/api"
	"pyxis/cbchs"
)

func text(r *rand.Rand, n int) string {
	b := make([]byte, n)
	r.Read(b)
	return string(b)
}

func bin(s string) string {
	b, err := hex.DecodeString(strings.ReplaceAll(s, " ", ""))
	if err != nil {
		panic(err)
	}
	return string(b)
}

// chain is the library's chain of whole blocks.
func chain(key, iv, s string) string {
	block, err := stdaes.NewCipher([]byte(key[len(key)/2:]))
	if err != nil {
		panic(err)
	}
	out := []byte(s)
	cipher.NewCBCEncrypter(block, []byte(iv)).CryptBlocks(out, out)
	return string(out)
}

func slowTag(key, iv, aad, sealed string) string {
	half := len(key) / 2
	h := stdhmac.New(map[int]func() hash.Hash{16: sha256.New, 24: sha512.New384, 32: sha512.New}[half], []byte(key[:half]))
	h.Write([]byte(aad + iv + sealed))
	binary.Write(h, binary.BigEndian, uint64(8*len(aad)))
	return string(h.Sum(nil)[:half])
}

func slowSeal(key, iv, aad, s string) string {
	n := 16 - len(s)%16
	sealed := chain(key, iv, s+strings.Repeat(string([]byte{byte(n)}), n))
	return sealed + slowTag(key, iv, aad, sealed)
}

// RFC 7518, B.1.
func TestExample(t *testing.T) {
	key := bin("000102030405060708090a0b0c0d0e0f101112131415161718191a1b1c1d1e1f")
	iv := bin("1af38c2dc2b96ffdd86694092341bc04")
	aad := "The second principle of Auguste Kerckhoffs"
	plain := "A cipher system must not be required to be secret, and it must be able to fall into the hands of the enemy without inconvenience"
	sealed, e := cbchs.Seal(key, iv, aad, plain)
	if e != api.OK || !strings.HasPrefix(sealed, bin("c80edfa32ddf39d5ef00c0b468834279a2e46a1b8049f792f76bfe54b903a9c9")) || !strings.HasSuffix(sealed, bin("652c3fa36b0a7c5b3219fab3a30bc1c4")) {
		t.Errorf("%x, %v", sealed, e)
	}
	if got, e := cbchs.Seal(key, iv, "", ""); e != api.OK || len(got) != 32 {
		t.Error(len(got), e)
	}
}

// P11.2 to P11.4
func TestSeal(t *testing.T) {
	r := rand.New(rand.NewSource(1))
	for i := range 300 {
		key, iv, aad, s := text(r, 32+16*(i%3)), text(r, 16), text(r, r.Intn(50)), text(r, r.Intn(100))
		want := slowSeal(key, iv, aad, s)
		sealed, e := cbchs.Seal(key, iv, aad, s)
		if e != api.OK || sealed != want {
			t.Fatalf("Seal(%x, %x, %x, %x) = %x, %v", key, iv, aad, s, sealed, e)
		}
		n := len(want) - len(key)/2
		if tag, e := cbchs.Tag(key, iv, aad, want[:n]); e != api.OK || tag != want[n:] {
			t.Fatalf("Tag: %x, %v", tag, e)
		}
		if back, e := cbchs.Open(key, iv, aad, sealed); e != api.OK || back != s {
			t.Fatalf("Open: %x, %v", back, e)
		}
		other := text(r, r.Intn(40))
		if tag, e := cbchs.Tag(key, iv, aad, other); e != api.OK || tag != slowTag(key, iv, aad, other) {
			t.Fatalf("Tag: %x, %v", tag, e)
		}
	}
}

// P11.1
func TestErrors(t *testing.T) {
	over := api.MaxText + 1
	for _, c := range []struct {
		key, iv, aad, text int
		tag, seal, open    api.Errno
	}{
		{31, 3, over, 1 << 17, api.ErrKey, api.ErrKey, api.ErrKey}, {0, 16, 0, 32, api.ErrKey, api.ErrKey, api.ErrKey}, {16, 16, 0, 32, api.ErrKey, api.ErrKey, api.ErrKey}, {40, 16, 0, 32, api.ErrKey, api.ErrKey, api.ErrKey}, {65, 16, 0, 32, api.ErrKey, api.ErrKey, api.ErrKey},
		{32, 15, over, 1 << 17, api.ErrIV, api.ErrIV, api.ErrIV}, {48, 17, 0, 40, api.ErrIV, api.ErrIV, api.ErrIV}, {48, 0, 0, 40, api.ErrIV, api.ErrIV, api.ErrIV},
		{64, 16, over, 48, api.ErrSize, api.ErrSize, api.ErrSize}, {64, 16, api.MaxText, 48, api.OK, api.OK, api.ErrAuth},
		{32, 16, 0, api.MaxText, api.OK, api.OK, api.ErrAuth}, {32, 16, 0, over, api.OK, api.ErrSize, api.ErrSize}, {32, 16, 0, api.MaxText + 16, api.OK, api.ErrSize, api.ErrAuth}, {32, 16, 0, api.MaxText + 17, api.ErrSize, api.ErrSize, api.ErrSize},
		{32, 16, 0, api.MaxText + 32, api.ErrSize, api.ErrSize, api.ErrAuth}, {32, 16, 0, api.MaxText + 48, api.ErrSize, api.ErrSize, api.ErrSize},
		{32, 16, 0, 31, api.OK, api.OK, api.ErrSize}, {32, 16, 0, 32, api.OK, api.OK, api.ErrAuth}, {32, 16, 0, 33, api.OK, api.OK, api.ErrSize}, {32, 16, 0, 16, api.OK, api.OK, api.ErrSize}, {32, 16, 0, 0, api.OK, api.OK, api.ErrSize},
		{48, 16, 0, 39, api.OK, api.OK, api.ErrSize}, {48, 16, 0, 40, api.OK, api.OK, api.ErrAuth}, {48, 16, 0, 48, api.OK, api.OK, api.ErrSize}, {64, 16, 0, 32, api.OK, api.OK, api.ErrSize}, {64, 16, 0, 48, api.OK, api.OK, api.ErrAuth}, {64, 16, 0, 47, api.OK, api.OK, api.ErrSize},
	} {
		key, iv, aad, s := strings.Repeat("k", c.key), strings.Repeat("i", c.iv), strings.Repeat("a", c.aad), strings.Repeat("t", c.text)
		if got, e := cbchs.Tag(key, iv, aad, s); e != c.tag || e != api.OK && got != "" || e == api.OK && len(got) != c.key/2 {
			t.Error("Tag", c, len(got), e)
		}
		if got, e := cbchs.Seal(key, iv, aad, s); e != c.seal || e != api.OK && got != "" || e == api.OK && len(got) != c.key/2+c.text/16*16+16 {
			t.Error("Seal", c, len(got), e)
		}
		if got, e := cbchs.Open(key, iv, aad, s); e != c.open || got != "" {
			t.Error("Open", c, len(got), e)
		}
	}
}

// P11.3: whatever is changed; and a right tag of a padding that is none.
func TestChanged(t *testing.T) {
	key, iv, aad := strings.Repeat("0123456789abcdef", 3), "iviviviviviviviv", "aad"
	sealed, _ := cbchs.Seal(key, iv, aad, "a text of some bytes")
	for i := range len(sealed) {
		for bit := range 8 {
			b := []byte(sealed)
			b[i] ^= 1 << bit
			if got, e := cbchs.Open(key, iv, aad, string(b)); got != "" || e != api.ErrAuth {
				t.Fatal(i, bit, got, e)
			}
		}
	}
	for _, c := range [][3]string{{"1" + key[1:], iv, aad}, {key, "j" + iv[1:], aad}, {key, iv, "aae"}, {key, iv, ""}, {key, iv, aad + "\x00"}} {
		if got, e := cbchs.Open(c[0], c[1], c[2], sealed); got != "" || e != api.ErrAuth {
			t.Error(c, got, e)
		}
	}
	for _, last := range []string{"abcdefghijklmno\x00", "abcdefghijklmno\x11", "abcdefghijklmn\x01\x02"} {
		wrong := chain(key, iv, last)
		if got, e := cbchs.Open(key, iv, aad, wrong+slowTag(key, iv, aad, wrong)); got != "" || e != api.ErrAuth {
			t.Errorf("%q: %q, %v", last, got, e)
		}
	}
}

// P11.4: the longest.
func TestLongest(t *testing.T) {
	for _, n := range []int{32, 48, 64} {
		key, iv, aad, s := strings.Repeat("k", n), "iviviviviviviviv", strings.Repeat("a", api.MaxText), strings.Repeat("t", api.MaxText)
		sealed, e := cbchs.Seal(key, iv, aad, s)
		if e != api.OK || sealed != slowSeal(key, iv, aad, s) {
			t.Fatal(n, e)
		}
		if got, e := cbchs.Open(key, iv, aad, sealed); e != api.OK || got != s {
			t.Error(n, e)
		}
	}
}
