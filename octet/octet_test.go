package octet_test

import (
	"encoding/hex"
	"math/big"
	"math/rand"
	"strings"
	"testing"

	"pyxis/api"
	"pyxis/octet"
)

func text(r *rand.Rand, n int) string {
	b := make([]byte, n)
	r.Read(b)
	return string(b)
}

// P1.1
func TestSame(t *testing.T) {
	for _, c := range []struct {
		a, b string
		want bool
	}{
		{"", "", true}, {"a", "a", true}, {"a", "b", false}, {"a", "", false}, {"", "a", false},
		{"a", "aa", false}, {"ab\x00", "ab", false}, {"\x00", "\x80", false}, {"xbc", "abc", false}, {"abx", "abc", false}, {"\xff\xfe", "\xff\xfe", true},
		{"\x01\x02", "\x02\x01", false}, {"\x01\x01", "\x02\x02", false},
	} {
		if got := octet.Same(c.a, c.b); got != c.want {
			t.Errorf("Same(%q, %q) = %v", c.a, c.b, got)
		}
	}
}

// P1.1
func TestXor(t *testing.T) {
	for _, c := range [][3]string{
		{"ab", "A", " "}, {"A", "ab", " "}, {"", "x", ""}, {"x", "", ""}, {"", "", ""},
		{"\xff\x0f\x00", "\x0f\xff\x00", "\xf0\xf0\x00"}, {"\x80\x01", "\x80\x02zz", "\x00\x03"},
	} {
		if got := octet.Xor(c[0], c[1]); got != c[2] {
			t.Errorf("Xor(%q, %q) = %q", c[0], c[1], got)
		}
	}
}

// P1.2
func TestPut(t *testing.T) {
	for _, c := range []struct {
		n     uint64
		width int
		want  string
		e     api.Errno
	}{
		{258, 2, "\x01\x02", api.OK}, {0, 1, "\x00", api.OK}, {255, 1, "\xff", api.OK}, {256, 1, "", api.ErrArg},
		{0, 0, "", api.ErrArg}, {0, 9, "", api.ErrArg}, {0, -1, "", api.ErrArg}, {1, 8, "\x00\x00\x00\x00\x00\x00\x00\x01", api.OK},
		{1<<64 - 1, 8, "\xff\xff\xff\xff\xff\xff\xff\xff", api.OK}, {1<<64 - 1, 7, "", api.ErrArg}, {1<<56 - 1, 7, "\xff\xff\xff\xff\xff\xff\xff", api.OK},
		{1 << 56, 7, "", api.ErrArg}, {65536, 2, "", api.ErrArg}, {65535, 2, "\xff\xff", api.OK}, {5, -1 << 63, "", api.ErrArg}, {5, 1<<63 - 1, "", api.ErrArg},
	} {
		if got, e := octet.Put(c.n, c.width); got != c.want || e != c.e {
			t.Errorf("Put(%d, %d) = %q, %v", c.n, c.width, got, e)
		}
	}
}

// P1.2
func TestGet(t *testing.T) {
	for _, c := range []struct {
		s    string
		want uint64
		e    api.Errno
	}{
		{"", 0, api.ErrSize}, {"\x00", 0, api.OK}, {"\x01\x02", 258, api.OK}, {"\x00\x00\x01", 1, api.OK},
		{"\xff\xff\xff\xff\xff\xff\xff\xff", 1<<64 - 1, api.OK}, {"\x00\x00\x00\x00\x00\x00\x00\x00\x01", 0, api.ErrSize},
	} {
		if got, e := octet.Get(c.s); got != c.want || e != c.e {
			t.Errorf("Get(%q) = %d, %v", c.s, got, e)
		}
	}
}

// P1.2: against numbers of any length.
func TestAdd(t *testing.T) {
	for _, c := range []struct {
		s    string
		n    uint64
		want string
	}{
		{"\xff\xff", 2, "\x00\x01"}, {"", 5, ""}, {"\x00", 256, "\x00"}, {"\x01", 1<<64 - 1, "\x00"},
		{"\x00\xff\xff\xff\xff\xff\xff\xff\xff", 1<<64 - 1, "\x01\xff\xff\xff\xff\xff\xff\xff\xfe"}, {"abc", 0, "abc"},
	} {
		if got := octet.Add(c.s, c.n); got != c.want {
			t.Errorf("Add(%q, %d) = %q", c.s, c.n, got)
		}
	}
	r := rand.New(rand.NewSource(1))
	for range 3000 {
		s := text(r, r.Intn(20))
		if r.Intn(2) == 0 {
			s = strings.Repeat("\xff", len(s))
		}
		n := r.Uint64() >> r.Intn(64)
		sum := new(big.Int).Add(new(big.Int).SetBytes([]byte(s)), new(big.Int).SetUint64(n))
		sum.Mod(sum, new(big.Int).Lsh(big.NewInt(1), uint(8*len(s))))
		if got := octet.Add(s, n); got != string(sum.FillBytes(make([]byte, len(s)))) {
			t.Fatalf("Add(%x, %d) = %x", s, n, got)
		}
	}
}

// P1.3
func TestHex(t *testing.T) {
	if got := octet.Hex("\x00\xab"); got != "00ab" {
		t.Error(got)
	}
	if octet.Hex("") != "" {
		t.Error("Hex of nothing")
	}
	for b := range 256 {
		if got := octet.Hex(string([]byte{byte(b)})); got != hex.EncodeToString([]byte{byte(b)}) {
			t.Error(b, got)
		}
	}
}

// P1.3
func TestUnhex(t *testing.T) {
	for _, c := range []struct {
		s, want string
		at      int
		e       api.Errno
	}{
		{"", "", 0, api.OK}, {"00ab", "\x00\xab", 0, api.OK}, {"0x", "", 1, api.ErrForm}, {"abc", "", 3, api.ErrForm},
		{"AB", "", 0, api.ErrForm}, {"aB", "", 1, api.ErrForm}, {"a", "", 1, api.ErrForm}, {"g", "", 0, api.ErrForm}, {"abg", "", 2, api.ErrForm},
		{"00 ", "", 2, api.ErrForm}, {"0123456789abcdef", "\x01\x23\x45\x67\x89\xab\xcd\xef", 0, api.OK}, {"00\xff0", "", 2, api.ErrForm},
	} {
		if got, at, e := octet.Unhex(c.s); got != c.want || at != c.at || e != c.e {
			t.Errorf("Unhex(%q) = %q, %d, %v", c.s, got, at, e)
		}
	}
	for b := range 256 {
		_, at, e := octet.Unhex("0" + string([]byte{byte(b)}))
		if right := strings.IndexByte("0123456789abcdef", byte(b)) >= 0; right != (e == api.OK) || !right && at != 1 {
			t.Error(b, at, e)
		}
	}
}

// P1.4
func TestThereAndBack(t *testing.T) {
	r := rand.New(rand.NewSource(2))
	for range 2000 {
		width := 1 + r.Intn(8)
		n := r.Uint64() >> (64 - 8*width)
		s, e := octet.Put(n, width)
		if back, e2 := octet.Get(s); e != api.OK || e2 != api.OK || back != n || len(s) != width {
			t.Fatal(n, width, s, e, back, e2)
		}
		a := text(r, r.Intn(30))
		b := a + text(r, r.Intn(3))
		if octet.Xor(octet.Xor(a, b), b) != a {
			t.Fatalf("%x %x", a, b)
		}
		if back, at, e := octet.Unhex(octet.Hex(a)); back != a || at != 0 || e != api.OK {
			t.Fatalf("%x: %x, %d, %v", a, back, at, e)
		}
	}
}
