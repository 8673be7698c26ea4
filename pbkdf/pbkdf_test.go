package pbkdf_test

import (
	"crypto/pbkdf2"
	"crypto/sha256"
	"crypto/sha512"
	"hash"
	"math/rand"
	"strings"
	"testing"

	"pyxis/api"
	"pyxis/pbkdf"
)

var hashes = map[int]func() hash.Hash{256: sha256.New, 384: sha512.New384, 512: sha512.New}

func text(r *rand.Rand, n int) string {
	b := make([]byte, n)
	r.Read(b)
	return string(b)
}

// P5.1
func TestExamples(t *testing.T) {
	for rounds, want := range map[int]string{1: "\x12\x0f\xb6\xcf", 2: "\xae\x4d\x0c\x95", 4096: "\xc5\xe4\x78\xd5"} {
		if got, e := pbkdf.Key(256, "password", "salt", rounds, 4); got != want || e != api.OK {
			t.Errorf("%d: %x, %v", rounds, got, e)
		}
	}
}

// P5.1
func TestKey(t *testing.T) {
	r := rand.New(rand.NewSource(1))
	for range 200 {
		kind := []int{256, 384, 512}[r.Intn(3)]
		password, salt := text(r, r.Intn(200)), text(r, r.Intn(100))
		rounds, length := 1+r.Intn(20), 1+r.Intn(256)
		want, err := pbkdf2.Key(hashes[kind], password, []byte(salt), rounds, length)
		if err != nil {
			t.Fatal(err)
		}
		if got, e := pbkdf.Key(kind, password, salt, rounds, length); e != api.OK || got != string(want) {
			t.Fatalf("%d %x %x %d %d: %x, %v", kind, password, salt, rounds, length, got, e)
		}
	}
}

// P5.1: the edges, and which of several errors comes first.
func TestErrors(t *testing.T) {
	for _, c := range []struct {
		kind, salt, rounds, length int
		e                          api.Errno
	}{
		{256, 1024, 1, 256, api.OK}, {256, 0, 1, 1, api.OK}, {512, 0, 4096, 1, api.OK},
		{1, 2000, 0, 0, api.ErrKind}, {0, 0, 1, 1, api.ErrKind}, {256, 2000, 0, 16, api.ErrArg}, {256, 0, -1, 16, api.ErrArg}, {256, 0, 1, 0, api.ErrArg}, {256, 0, 1, -1, api.ErrArg},
		{256, 0, 1, 257, api.ErrArg}, {256, 0, 5000, 257, api.ErrArg}, {256, 0, 5000, 0, api.ErrArg}, {384, 2000, 4097, 16, api.ErrRounds}, {384, 0, 4097, 16, api.ErrRounds}, {384, 1025, 4096, 16, api.ErrIV},
		{256, 0, 1<<63 - 1, 1, api.ErrRounds}, {256, 0, -1 << 63, 1, api.ErrArg}, {256, 0, 1, 1<<63 - 1, api.ErrArg},
	} {
		got, e := pbkdf.Key(c.kind, "p", strings.Repeat("s", c.salt), c.rounds, c.length)
		if e != c.e || e != api.OK && got != "" || e == api.OK && len(got) != c.length {
			t.Errorf("%v: %x, %v", c, got, e)
		}
	}
}

// P5.2
func TestBeginning(t *testing.T) {
	for kind := range hashes {
		long, _ := pbkdf.Key(kind, "password", "salt", 3, 256)
		for n := 1; n < 256; n++ {
			if got, e := pbkdf.Key(kind, "password", "salt", 3, n); e != api.OK || got != long[:n] {
				t.Fatalf("%d, %d: %x, %v", kind, n, got, e)
			}
		}
	}
}
