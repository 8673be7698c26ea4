package recip_test

import (
	stdaes "crypto/aes"
	"crypto/cipher"
	"crypto/pbkdf2"
	"crypto/sha256"
	"crypto/sha512"
	"hash"
	"math/rand"
	"strings"
	"testing"

	"pyxis/api"
	"pyxis/recip"
)

func text(r *rand.Rand, n int) string {
	b := make([]byte, n)
	r.Read(b)
	return string(b)
}

var algorithms = []struct {
	kind, size int
	name       string
	hash       func() hash.Hash
}{{256, 16, "PBES2-HS256+A128KW", sha256.New}, {384, 24, "PBES2-HS384+A192KW", sha512.New384}, {512, 32, "PBES2-HS512+A256KW", sha512.New}}

// P22.1
func TestName(t *testing.T) {
	for _, a := range algorithms {
		if got, e := recip.Name(a.kind); got != a.name || e != api.OK {
			t.Error(got, e)
		}
	}
	for _, kind := range []int{0, 1, -256, 128, 255, 1024} {
		if got, e := recip.Name(kind); got != "" || e != api.ErrKind {
			t.Error(kind, got, e)
		}
	}
}

// P22.1
func TestDerive(t *testing.T) {
	r := rand.New(rand.NewSource(1))
	for _, a := range algorithms {
		for range 30 {
			password, salt, rounds := text(r, r.Intn(150)), text(r, 8+r.Intn(100)), 1+r.Intn(20)
			want, err := pbkdf2.Key(a.hash, password, []byte(a.name+"\x00"+salt), rounds, a.size)
			if got, e := recip.Derive(a.name, password, salt, rounds); err != nil || e != api.OK || got != string(want) {
				t.Fatalf("%s %x %x %d: %x, %v", a.name, password, salt, rounds, got, e)
			}
		}
		for _, c := range []struct {
			salt, rounds int
			e            api.Errno
		}{
			{8, 1, api.OK}, {1000, 1, api.OK}, {8, 4096, api.OK}, {7, 0, api.ErrIV}, {1001, 5000, api.ErrIV}, {0, 1, api.ErrIV},
			{8, 0, api.ErrArg}, {8, -5, api.ErrArg}, {8, 4097, api.ErrRounds}, {8, 1<<63 - 1, api.ErrRounds},
		} {
			got, e := recip.Derive(a.name, "p", strings.Repeat("s", c.salt), c.rounds)
			if e != c.e || e == api.OK && len(got) != a.size || e != api.OK && got != "" {
				t.Error(a.name, c, got, e)
			}
		}
	}
	for _, name := range []string{"", "dir", "A128KW", "PBES2-HS256+A256KW", "PBES2-HS256+A128KW ", "pbes2-hs256+a128kw"} {
		if got, e := recip.Derive(name, "p", "s", 0); got != "" || e != api.ErrKind {
			t.Error(name, got, e)
		}
	}
}

// P22.2
func TestFill(t *testing.T) {
	for n := -5; n < 300; n++ {
		got, e := recip.Fill(n)
		if n < 3 || n > 255 {
			if got != 0 || e != api.ErrSize {
				t.Error(n, got, e)
			}
			continue
		}
		want := 0
		for (4+n+want)%16 != 0 || 4+n+want < 32 {
			want++
		}
		if got != want || e != api.OK {
			t.Error(n, got, e)
		}
	}
	for n, want := range map[int]int{16: 12, 32: 12, 44: 0, 28: 0, 3: 25, 255: 13} {
		if got, e := recip.Fill(n); got != want || e != api.OK {
			t.Error(n, got, e)
		}
	}
}

// chain is the library's.
func chain(key, iv, s string) string {
	block, err := stdaes.NewCipher([]byte(key))
	if err != nil {
		panic(err)
	}
	out := []byte(s)
	cipher.NewCBCEncrypter(block, []byte(iv)).CryptBlocks(out, out)
	return string(out)
}

// locked is what is laid out, through both chains.
func locked(key, iv, laid string) string {
	once := chain(key, iv, laid)
	return chain(key, once[len(once)-16:], once)
}

// P22.3 to P22.5
func TestLock(t *testing.T) {
	r := rand.New(rand.NewSource(2))
	for n := 3; n <= 255; n++ {
		key, iv, s := text(r, 16+8*(n%3)), text(r, 16), text(r, n)
		k, _ := recip.Fill(n)
		fill := text(r, k)
		laid := string([]byte{byte(n), ^s[0], ^s[1], ^s[2]}) + s + fill
		got, e := recip.Lock(key, iv, s, fill)
		if e != api.OK || got != locked(key, iv, laid) {
			t.Fatalf("%d: %x, %v", n, got, e)
		}
		if back, e := recip.Unlock(key, iv, got); e != api.OK || back != s {
			t.Fatalf("%d: %x, %v", n, back, e)
		}
	}
}

// P22.3, P22.4: the errors, in their order.
func TestErrors(t *testing.T) {
	for _, c := range []struct {
		key, iv, n, fill int
		e                api.Errno
	}{
		{15, 3, 2, 1, api.ErrKey}, {0, 16, 16, 12, api.ErrKey}, {33, 16, 16, 12, api.ErrKey}, {16, 15, 2, 1, api.ErrIV}, {16, 17, 16, 12, api.ErrIV}, {16, 0, 16, 12, api.ErrIV},
		{24, 16, 2, 26, api.ErrSize}, {24, 16, 0, 28, api.ErrSize}, {24, 16, 256, 12, api.ErrSize}, {32, 16, 16, 11, api.ErrArg}, {32, 16, 16, 13, api.ErrArg}, {32, 16, 16, 28, api.ErrArg}, {32, 16, 16, 0, api.ErrArg}, {32, 16, 44, 16, api.ErrArg}, {32, 16, 44, 0, api.OK}, {16, 16, 3, 25, api.OK}, {16, 16, 255, 13, api.OK},
	} {
		got, e := recip.Lock(strings.Repeat("k", c.key), strings.Repeat("i", c.iv), strings.Repeat("t", c.n), strings.Repeat("f", c.fill))
		if e != c.e || e != api.OK && got != "" || e == api.OK && len(got) != 4+c.n+c.fill {
			t.Error(c, got, e)
		}
	}
	for _, c := range []struct {
		key, iv, n int
		e          api.Errno
	}{
		{17, 3, 3, api.ErrKey}, {16, 15, 3, api.ErrIV}, {16, 16, 16, api.ErrSize}, {16, 16, 0, api.ErrSize}, {16, 16, 31, api.ErrSize}, {16, 16, 33, api.ErrSize}, {16, 16, 288, api.ErrSize}, {16, 16, 280, api.ErrSize}, {16, 16, 32, api.ErrAuth}, {16, 16, 272, api.ErrAuth},
	} {
		if got, e := recip.Unlock(strings.Repeat("k", c.key), strings.Repeat("i", c.iv), strings.Repeat("t", c.n)); got != "" || e != c.e {
			t.Error(c, got, e)
		}
	}
}

// P22.4: what comes out is no key laid out.
func TestNotLaidOut(t *testing.T) {
	key, iv := "0123456789abcdef", "iviviviviviviviv"
	abc := string([]byte{^byte('a'), ^byte('b'), ^byte('c')})
	rest := "abc" + strings.Repeat("f", 300)
	for _, c := range []struct {
		laid string
		n    int
		want string
		e    api.Errno
	}{
		{"\x03" + abc, 32, "abc", api.OK}, {"\x03" + abc, 48, "", api.ErrAuth}, {"\x02" + abc, 32, "", api.ErrAuth}, {"\x00" + abc, 32, "", api.ErrAuth}, {"\x1c" + abc, 32, rest[:28], api.OK}, {"\x1d" + abc, 32, "", api.ErrAuth}, {"\x1d" + abc, 48, rest[:29], api.OK}, {"\x1c" + abc, 48, "", api.ErrAuth}, {"\xff" + abc, 272, rest[:255], api.OK}, {"\xff" + abc, 256, "", api.ErrAuth}, {"\xff" + abc, 32, "", api.ErrAuth},
		{"\x10" + "abc", 32, "", api.ErrAuth}, {"\x10\x00" + abc[1:], 32, "", api.ErrAuth}, {"\x10" + abc[:1] + "\x00" + abc[2:], 32, "", api.ErrAuth}, {"\x10" + abc[:2] + "\x00", 32, "", api.ErrAuth},
	} {
		if got, e := recip.Unlock(key, iv, locked(key, iv, (c.laid + rest)[:c.n])); got != c.want || e != c.e {
			t.Errorf("%x of %d: %x, %v", c.laid, c.n, got, e)
		}
	}
	right, _ := recip.Lock(key, iv, strings.Repeat("s", 16), strings.Repeat("f", 12))
	for i := range right {
		b := []byte(right)
		b[i]++
		if got, e := recip.Unlock(key, iv, string(b)); e == api.OK && got == strings.Repeat("s", 16) {
			t.Error(i, got, e)
		}
	}
	if got, e := recip.Unlock(key, iv[:1]+"x"+iv[2:], right); e != api.ErrAuth || got != "" {
		t.Error(got, e)
	}
	if got, e := recip.Unlock("x"+key[1:], iv, right); e != api.ErrAuth || got != "" {
		t.Error(got, e)
	}
}
