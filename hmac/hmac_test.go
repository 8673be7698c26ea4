package hmac_test

import (
	stdhmac "crypto/hmac"
	"crypto/sha256"
	"crypto/sha512"
	"encoding/hex"
	"hash"
	"math/rand"
	"strings"
	"testing"

	"pyxis/api"
	"pyxis/hmac"
)

var hashes = map[int]func() hash.Hash{256: sha256.New, 384: sha512.New384, 512: sha512.New}

func text(r *rand.Rand, n int) string {
	b := make([]byte, n)
	r.Read(b)
	return string(b)
}

func std(kind int, key, s string) string {
	h := stdhmac.New(hashes[kind], []byte(key))
	h.Write([]byte(s))
	return string(h.Sum(nil))
}

// P4.1: the chapter's example, and those of RFC 4231.
func TestExamples(t *testing.T) {
	for _, c := range []struct {
		kind             int
		key, text, begin string
	}{
		{256, "key", "The quick brown fox jumps over the lazy dog", "f7bc83f4"},
		{256, strings.Repeat("\x0b", 20), "Hi There", "b0344c61d8db38535ca8afceaf0bf12b"},
		{384, "Jefe", "what do ya want for nothing?", "af45d2e376484031617f78d2b58a6b1b"},
		{512, strings.Repeat("\xaa", 131), "Test Using Larger Than Block-Size Key - Hash Key First", "80b24263c7c1a3ebb71493c1dd7be8b4"},
	} {
		if got, e := hmac.Sum(c.kind, c.key, c.text); e != api.OK || !strings.HasPrefix(hex.EncodeToString([]byte(got)), c.begin) {
			t.Errorf("%d %q %q: %x, %v", c.kind, c.key, c.text, got, e)
		}
	}
}

// P4.1: keys of all lengths about a block.
func TestSum(t *testing.T) {
	r := rand.New(rand.NewSource(1))
	for kind := range hashes {
		for n := range 200 {
			key, s := text(r, n), text(r, r.Intn(300))
			if got, e := hmac.Sum(kind, key, s); e != api.OK || got != std(kind, key, s) {
				t.Fatalf("%d, %x, %x: %x, %v", kind, key, s, got, e)
			}
		}
		if got, _ := hmac.Sum(kind, "", ""); got != std(kind, "", "") {
			t.Errorf("%d: %x", kind, got)
		}
	}
}

// P4.1, P4.2
func TestNoKind(t *testing.T) {
	for _, kind := range []int{0, 1, -1, 255, 257, 128, 1024} {
		if got, e := hmac.Sum(kind, "k", "t"); got != "" || e != api.ErrKind {
			t.Error(kind, got, e)
		}
		if m, e := hmac.New(kind, "k"); m != nil || e != api.ErrKind {
			t.Error(kind, m, e)
		}
	}
}

// P4.2
func TestMac(t *testing.T) {
	r := rand.New(rand.NewSource(2))
	for kind := range hashes {
		for range 50 {
			key := text(r, r.Intn(200))
			m, e := hmac.New(kind, key)
			if e != api.OK {
				t.Fatal(e)
			}
			for range 3 {
				all := ""
				for range r.Intn(5) {
					if got, e := m.Sum(); e != api.OK || got != std(kind, key, all) {
						t.Fatalf("%d, %x, %x: %x, %v", kind, key, all, got, e)
					}
					s := text(r, r.Intn(150))
					if e := m.Write(s); e != api.OK {
						t.Fatal(e)
					}
					all += s
				}
				for range 2 {
					if got, e := m.Sum(); e != api.OK || got != std(kind, key, all) {
						t.Fatalf("%d, %x, %x: %x, %v", kind, key, all, got, e)
					}
				}
				if e := m.Again(); e != api.OK {
					t.Fatal(e)
				}
			}
		}
	}
}

// P4.2: two of one key have texts of their own.
func TestApart(t *testing.T) {
	a, _ := hmac.New(256, "k")
	b, _ := hmac.New(256, "k")
	a.Write("a")
	b.Write("b")
	a.Again()
	if got, _ := b.Sum(); got != std(256, "k", "b") {
		t.Errorf("%x", got)
	}
	if got, _ := a.Sum(); got != std(256, "k", "") {
		t.Errorf("%x", got)
	}
}

// P4.2
func TestNil(t *testing.T) {
	for _, m := range []*hmac.Mac{nil, {}} {
		if e := m.Write("x"); e != api.ErrNil {
			t.Error(e)
		}
		if s, e := m.Sum(); s != "" || e != api.ErrNil {
			t.Error(s, e)
		}
		if e := m.Again(); e != api.ErrNil {
			t.Error(e)
		}
	}
}
