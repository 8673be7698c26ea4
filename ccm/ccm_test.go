package ccm_test

import (
	stdaes "crypto/aes"
	"crypto/cipher"
	"encoding/binary"
	"encoding/hex"
	"math/rand"
	"strings"
	"testing"

	"pyxis/api"
	"pyxis/ccm"
)

func text(r *rand.Rand, n int) string {
	b := make([]byte, n)
	r.Read(b)
	return string(b)
}

func bin(s string) string {
	b, err := hex.DecodeString(strings.ReplaceAll(s, " ", ""))
	if err != nil {
		panic(err)
	}
	return string(b)
}

// slow seals by RFC 3610 over the library's block cipher.
func slow(key, nonce, aad, s string, size int) string {
	block, err := stdaes.NewCipher([]byte(key))
	if err != nil {
		panic(err)
	}
	q := 15 - len(nonce)
	b0 := make([]byte, 16)
	binary.BigEndian.PutUint64(b0[8:], uint64(len(s)))
	b0[0] = byte((size-2)/2<<3 | (q - 1))
	if aad != "" {
		b0[0] |= 0x40
	}
	copy(b0[1:], nonce)
	all := b0
	if n := len(aad); n >= 0xff00 {
		all = append(all, 0xff, 0xfe, byte(n>>24), byte(n>>16), byte(n>>8), byte(n))
	} else if n > 0 {
		all = append(all, byte(n>>8), byte(n))
	}
	all = append(all, aad...)
	for len(all)%16 != 0 {
		all = append(all, 0)
	}
	all = append(all, s...)
	for len(all)%16 != 0 {
		all = append(all, 0)
	}
	cipher.NewCBCEncrypter(block, make([]byte, 16)).CryptBlocks(all, all)
	start := make([]byte, 16)
	start[0] = byte(q - 1)
	copy(start[1:], nonce)
	out := append(append([]byte{}, all[len(all)-16:]...), s...)
	cipher.NewCTR(block, start).XORKeyStream(out, out)
	return string(out[16:]) + string(out[:size])
}

// The chapter's example, and packet vector 1 of RFC 3610, examples 2 and 3 of SP 800-38C.
func TestExamples(t *testing.T) {
	count := func(from, n int) string {
		b := make([]byte, n)
		for i := range b {
			b[i] = byte(from + i)
		}
		return string(b)
	}
	for _, c := range []struct {
		key, nonce, aad, text string
		size                  int
		want                  string
	}{
		{count(0x40, 16), count(0x10, 7), count(0, 8), count(0x20, 4), 4, "7162015b4dac255d"},
		{count(0x40, 16), count(0x10, 8), count(0, 16), count(0x20, 16), 6, "d2a1f0e051ea5f62081a7792073d593d1fc64fbfaccd"},
		{count(0x40, 16), count(0x10, 12), count(0, 20), count(0x20, 24), 8, "e3b201a9f5b71a7a9b1ceaeccd97e70b6176aad9a4428aa5484392fbc1b09951"},
		{count(0xc0, 16), bin("00000003020100a0a1a2a3a4a5"), count(0, 8), count(8, 23), 8, "588c979a61c663d2f066d0c2c0f989806d5f6b61dac38417e8d12cfdf926e0"},
	} {
		sealed, e := ccm.Seal(c.key, c.nonce, c.aad, c.text, c.size)
		if e != api.OK || sealed != bin(c.want) {
			t.Errorf("%x, %v", sealed, e)
		}
		if back, e := ccm.Open(c.key, c.nonce, c.aad, bin(c.want), c.size); e != api.OK || back != c.text {
			t.Errorf("%x, %v", back, e)
		}
	}
}

// P10.2 to P10.4
func TestSeal(t *testing.T) {
	r := rand.New(rand.NewSource(1))
	for i := range 500 {
		key, nonce, aad, s, size := text(r, 16+8*(i%3)), text(r, 7+r.Intn(7)), text(r, r.Intn(60)), text(r, r.Intn(100)), 4+2*r.Intn(7)
		if i%5 == 0 {
			aad = ""
		}
		if i%7 == 0 {
			s = ""
		}
		want := slow(key, nonce, aad, s, size)
		sealed, e := ccm.Seal(key, nonce, aad, s, size)
		if e != api.OK || sealed != want {
			t.Fatalf("Seal(%x, %x, %x, %x, %d) = %x, %v", key, nonce, aad, s, size, sealed, e)
		}
		if tag, e := ccm.Tag(key, nonce, aad, s, size); e != api.OK || tag != want[len(s):] {
			t.Fatalf("Tag: %x, %v", tag, e)
		}
		if back, e := ccm.Open(key, nonce, aad, sealed, size); e != api.OK || back != s {
			t.Fatalf("Open: %x, %v", back, e)
		}
	}
}

// P10.1, P10.2: the edges of lengths; what is beside changes its form at 65280 bytes.
func TestLong(t *testing.T) {
	key := "0123456789abcdef"
	for _, c := range [][3]int{{7, 65279, 5}, {7, 65280, 5}, {8, 65281, 0}, {12, api.MaxText, 1}, {13, api.MaxText, 65535}, {12, 0, 65536}, {12, 0, api.MaxText}, {7, api.MaxText, api.MaxText}, {7, api.MaxText, api.MaxText - 40}} {
		nonce, aad, s := strings.Repeat("n", c[0]), strings.Repeat("a", c[1]), strings.Repeat("t", c[2])
		sealed, e := ccm.Seal(key, nonce, aad, s, 8)
		if e != api.OK || sealed != slow(key, nonce, aad, s, 8) {
			t.Error(c, len(sealed), e)
		}
		if back, e := ccm.Open(key, nonce, aad, sealed, 8); e != api.OK || back != s {
			t.Error(c, e)
		}
	}
}

// P10.1
func TestErrors(t *testing.T) {
	over := api.MaxText + 1
	for _, c := range []struct {
		key, nonce, size, aad, text int
		e, open                     api.Errno
	}{
		{15, 3, 3, over, over, api.ErrKey, api.ErrKey}, {0, 7, 4, 0, 4, api.ErrKey, api.ErrKey}, {33, 7, 4, 0, 4, api.ErrKey, api.ErrKey},
		{16, 6, 3, over, over, api.ErrIV, api.ErrIV}, {16, 14, 4, 0, 4, api.ErrIV, api.ErrIV}, {16, 0, 4, 0, 4, api.ErrIV, api.ErrIV},
		{16, 7, 3, over, over, api.ErrTag, api.ErrTag}, {24, 7, 5, 0, 40, api.ErrTag, api.ErrTag}, {24, 7, 18, 0, 40, api.ErrTag, api.ErrTag}, {24, 7, 2, 0, 40, api.ErrTag, api.ErrTag}, {24, 7, 0, 0, 40, api.ErrTag, api.ErrTag}, {24, 7, -4, 0, 40, api.ErrTag, api.ErrTag}, {24, 7, 15, 0, 40, api.ErrTag, api.ErrTag}, {24, 7, -1 << 63, 0, 40, api.ErrTag, api.ErrTag},
		{32, 7, 4, over, 4, api.ErrSize, api.ErrSize}, {32, 7, 4, api.MaxText, 4, api.OK, api.ErrAuth},
		{16, 7, 4, 0, 3, api.OK, api.ErrSize}, {16, 7, 16, 0, 15, api.OK, api.ErrSize}, {16, 7, 16, 0, 16, api.OK, api.ErrAuth}, {16, 7, 4, 0, 0, api.OK, api.ErrSize},
		{16, 12, 4, 0, over, api.ErrSize, api.ErrAuth}, {16, 12, 4, 0, api.MaxText + 4, api.ErrSize, api.ErrAuth}, {16, 12, 4, 0, api.MaxText + 5, api.ErrSize, api.ErrSize},
		{16, 13, 4, 0, 65535, api.OK, api.ErrAuth}, {16, 13, 4, 0, 65536, api.ErrSize, api.ErrAuth}, {16, 13, 4, 0, 65539, api.ErrSize, api.ErrAuth}, {16, 13, 4, 0, 65540, api.ErrSize, api.ErrSize},
	} {
		key, nonce, aad, s := strings.Repeat("k", c.key), strings.Repeat("n", c.nonce), strings.Repeat("a", c.aad), strings.Repeat("t", c.text)
		if got, e := ccm.Tag(key, nonce, aad, s, c.size); e != c.e || e != api.OK && got != "" || e == api.OK && len(got) != c.size {
			t.Error("Tag", c, len(got), e)
		}
		if got, e := ccm.Seal(key, nonce, aad, s, c.size); e != c.e || e != api.OK && got != "" || e == api.OK && len(got) != c.size+c.text {
			t.Error("Seal", c, len(got), e)
		}
		if got, e := ccm.Open(key, nonce, aad, s, c.size); e != c.open || got != "" {
			t.Error("Open", c, len(got), e)
		}
	}
}

// P10.3: whatever is changed.
func TestChanged(t *testing.T) {
	key, nonce, aad := "0123456789abcdef", "nonce678", "aad"
	for _, size := range []int{4, 16} {
		sealed, _ := ccm.Seal(key, nonce, aad, "a text of some bytes", size)
		for i := range len(sealed) {
			for bit := range 8 {
				b := []byte(sealed)
				b[i] ^= 1 << bit
				if got, e := ccm.Open(key, nonce, aad, string(b), size); got != "" || e != api.ErrAuth {
					t.Fatal(i, bit, got, e)
				}
			}
		}
		for _, c := range [][3]string{{"0123456789abcdeg", nonce, aad}, {key, "nonce679", aad}, {key, nonce + "9", aad}, {key, nonce, "aae"}, {key, nonce, ""}, {key, nonce, "aad\x00"}} {
			if got, e := ccm.Open(c[0], c[1], c[2], sealed, size); got != "" || e != api.ErrAuth {
				t.Error(c, got, e)
			}
		}
		if got, e := ccm.Open(key, nonce, aad, sealed[1:], size); got != "" || e != api.ErrAuth {
			t.Error(got, e)
		}
	}
}
