package sha_test

import (
	"crypto/sha256"
	"crypto/sha512"
	"encoding/hex"
	"math/rand"
	"strings"
	"testing"

	"pyxis/api"
	"pyxis/sha"
)

func text(r *rand.Rand, n int) string {
	b := make([]byte, n)
	r.Read(b)
	return string(b)
}

func std(kind int, s string) string {
	switch kind {
	case 256:
		d := sha256.Sum256([]byte(s))
		return string(d[:])
	case 384:
		d := sha512.Sum384([]byte(s))
		return string(d[:])
	}
	d := sha512.Sum512([]byte(s))
	return string(d[:])
}

var kinds = []int{256, 384, 512}

var noKinds = []int{0, 1, -256, 224, 255, 257, 383, 385, 511, 513, 1024, 1 << 40}

// P3.1
func TestSize(t *testing.T) {
	for _, c := range [][3]int{{256, 32, 64}, {384, 48, 128}, {512, 64, 128}} {
		if digest, block, e := sha.Size(c[0]); digest != c[1] || block != c[2] || e != api.OK {
			t.Error(c, digest, block, e)
		}
	}
	for _, kind := range noKinds {
		if digest, block, e := sha.Size(kind); digest != 0 || block != 0 || e != api.ErrKind {
			t.Error(kind, digest, block, e)
		}
		if s, e := sha.Sum(kind, "x"); s != "" || e != api.ErrKind {
			t.Error(kind, s, e)
		}
		if h, e := sha.New(kind); h != nil || e != api.ErrKind {
			t.Error(kind, h, e)
		}
	}
}

// P3.1
func TestExamples(t *testing.T) {
	for _, c := range []struct {
		kind     int
		s, begin string
	}{
		{256, "abc", "ba7816bf"}, {512, "abc", "ddaf35a1"}, {384, "", "38b060a7"}, {384, "abc", "cb00753f45a35e8b"}, {256, "", "e3b0c44298fc1c14"}, {512, "", "cf83e1357eefb8bd"},
		{256, "abcdbcdecdefdefgefghfghighijhijkijkljklmklmnlmnomnopnopq", "248d6a61d20638b8"},
	} {
		if got, e := sha.Sum(c.kind, c.s); e != api.OK || !strings.HasPrefix(hex.EncodeToString([]byte(got)), c.begin) {
			t.Errorf("%d %q: %x, %v", c.kind, c.s, got, e)
		}
	}
}

// P3.1: all lengths around a block and two.
func TestSum(t *testing.T) {
	r := rand.New(rand.NewSource(1))
	for _, kind := range kinds {
		for n := range 300 {
			s := text(r, n)
			if got, e := sha.Sum(kind, s); e != api.OK || got != std(kind, s) {
				t.Fatalf("%d, %d bytes: %x, %v", kind, n, got, e)
			}
		}
		s := text(r, 70001)
		if got, e := sha.Sum(kind, s); e != api.OK || got != std(kind, s) {
			t.Fatal(kind, e)
		}
	}
}

// P3.1: a number of bits that takes more than four bytes.
func TestLong(t *testing.T) {
	if testing.Short() {
		t.Skip()
	}
	h, _ := sha.New(256)
	d := sha256.New()
	piece := strings.Repeat("0123456789abcdef", 1<<16)
	for range 513 {
		h.Write(piece)
		d.Write([]byte(piece))
	}
	if got, e := h.Sum(); e != api.OK || got != string(d.Sum(nil)) {
		t.Errorf("%x, %v", got, e)
	}
}

// P3.2
func TestPieces(t *testing.T) {
	r := rand.New(rand.NewSource(2))
	for range 300 {
		kind := kinds[r.Intn(3)]
		h, e := sha.New(kind)
		if e != api.OK {
			t.Fatal(e)
		}
		all := ""
		for range 1 + r.Intn(8) {
			s := text(r, r.Intn(200))
			if e := h.Write(s); e != api.OK {
				t.Fatal(e)
			}
			all += s
			for range 2 {
				if got, e := h.Sum(); e != api.OK || got != std(kind, all) {
					t.Fatalf("%d, %d bytes: %x, %v", kind, len(all), got, e)
				}
			}
		}
	}
}

// P3.2: neither hangs on the other.
func TestCopy(t *testing.T) {
	for _, kind := range kinds {
		h, _ := sha.New(kind)
		h.Write("abc")
		c := h.Copy()
		h.Write("def")
		if got, _ := c.Sum(); got != std(kind, "abc") {
			t.Errorf("%x", got)
		}
		c.Write(strings.Repeat("x", 500))
		if got, _ := h.Sum(); got != std(kind, "abcdef") {
			t.Errorf("%x", got)
		}
		if got, _ := c.Sum(); got != std(kind, "abc"+strings.Repeat("x", 500)) {
			t.Errorf("%x", got)
		}
	}
}

// P3.2
func TestNil(t *testing.T) {
	for _, h := range []*sha.Hash{nil, {}} {
		if e := h.Write("x"); e != api.ErrNil {
			t.Error(e)
		}
		if s, e := h.Sum(); s != "" || e != api.ErrNil {
			t.Error(s, e)
		}
		if h.Copy() != nil {
			t.Error("Copy")
		}
	}
}
