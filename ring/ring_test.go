package ring_test

import (
	"reflect"
	"strings"
	"sync"
	"testing"

	"pyxis/api"
	"pyxis/ring"
)

func of(t *testing.T, names ...string) *ring.Ring {
	t.Helper()
	var l []api.Entry
	for _, n := range names {
		l = append(l, api.Entry{Name: n, Key: "key of " + n})
	}
	r, e := ring.New(l)
	if r == nil || e != api.OK {
		t.Fatal(names, e)
	}
	return r
}

// many is so many entries of names and keys that may be.
func many(n int) []api.Entry {
	var l []api.Entry
	for i := range n {
		l = append(l, api.Entry{Name: strings.Repeat("n", i+1), Key: "k"})
	}
	return l
}

// P21.1
func TestNew(t *testing.T) {
	long := func(n int) string { return strings.Repeat("x", n) }
	for i, c := range []struct {
		l []api.Entry
		e api.Errno
	}{
		{nil, api.OK}, {many(64), api.OK}, {many(65), api.ErrLimit}, {append(many(64), api.Entry{}), api.ErrLimit}, {append([]api.Entry{{Name: "", Key: "k"}}, many(64)...), api.ErrLimit},
		{[]api.Entry{{Name: long(128), Key: long(1024)}}, api.OK}, {[]api.Entry{{Name: long(129), Key: "k"}}, api.ErrArg}, {[]api.Entry{{Name: "", Key: "k"}}, api.ErrArg}, {[]api.Entry{{Name: "n", Key: ""}}, api.ErrArg}, {[]api.Entry{{Name: "n", Key: long(1025)}}, api.ErrArg},
		{[]api.Entry{{Name: "n", Key: "k"}, {Name: "n", Key: "l"}}, api.ErrTwice}, {[]api.Entry{{Name: "n", Key: "k"}, {Name: "n", Key: "k"}}, api.ErrTwice}, {[]api.Entry{{Name: "n", Key: "k"}, {Name: "n", Key: ""}}, api.ErrArg}, {[]api.Entry{{Name: "n", Key: "k"}, {Name: "n", Key: "k"}, {Name: "", Key: "k"}}, api.ErrTwice}, {[]api.Entry{{Name: "n", Key: "k"}, {Name: "", Key: "k"}, {Name: "n", Key: "k"}}, api.ErrArg},
		{[]api.Entry{{Name: "n", Key: "k"}, {Name: "N", Key: "k"}, {Name: "n\x00", Key: "k"}, {Name: "\xff", Key: "\x00"}}, api.OK},
	} {
		if r, e := ring.New(c.l); e != c.e || (r != nil) != (e == api.OK) {
			t.Error(i, r != nil, e)
		}
	}
}

// P21.2: the chapter's example.
func TestExample(t *testing.T) {
	r := of(t, "b", "a")
	if got := r.Names(); !reflect.DeepEqual(got, []string{"a", "b"}) {
		t.Error(got)
	}
	if got, e := r.Find("c"); got != "" || e != api.ErrNone {
		t.Error(got, e)
	}
	if got, e := r.Find("a"); got != "key of a" || e != api.OK {
		t.Error(got, e)
	}
	if r.Uses("a") != 1 || r.Uses("b") != 0 || r.Uses("c") != 0 {
		t.Error(r.Uses("a"), r.Uses("b"), r.Uses("c"))
	}
	if name, key, e := r.Only(); name+key != "" || e != api.ErrNone {
		t.Error(name, key, e)
	}
	if !r.Has("a") || !r.Has("b") || r.Has("c") || r.Has("") || r.Uses("a") != 1 {
		t.Error("Has")
	}
}

// P21.2
func TestOnly(t *testing.T) {
	r := of(t, "a")
	for i := range 3 {
		if name, key, e := r.Only(); name != "a" || key != "key of a" || e != api.OK {
			t.Error(name, key, e)
		}
		r.Find("a")
		r.Find("b")
		r.Has("a")
		r.Names()
		if n := r.Uses("a"); n != 2*i+2 {
			t.Error(i, n)
		}
	}
	empty := of(t)
	if name, key, e := empty.Only(); name+key != "" || e != api.ErrNone {
		t.Error(name, key, e)
	}
	if _, e := empty.Find("a"); e != api.ErrNone || empty.Has("a") || len(empty.Names()) != 0 || empty.Uses("a") != 0 {
		t.Error(e)
	}
}

// P21.2: byte by byte.
func TestNames(t *testing.T) {
	r := of(t, "b", "a\x00", "\xff", "a", "B", "aa", "é", "ab", "\x01")
	want := []string{"\x01", "B", "a", "a\x00", "aa", "ab", "b", "é", "\xff"}
	for range 2 {
		got := r.Names()
		if !reflect.DeepEqual(got, want) {
			t.Errorf("%q", got)
		}
		got[0] = "changed"
		_ = append(got[:1], "changed")
	}
}

// R4: what was handed in isn't kept as it is.
func TestOwn(t *testing.T) {
	l := []api.Entry{{Name: "a", Key: "k"}, {Name: "b", Key: "l"}}
	r, _ := ring.New(l)
	l[0] = api.Entry{Name: "c", Key: "m"}
	if got, e := r.Find("a"); got != "k" || e != api.OK || r.Has("c") {
		t.Error(got, e)
	}
}

// P21.3
func TestAtOneTime(t *testing.T) {
	r := of(t, "b", "a")
	one := of(t, "x")
	var group sync.WaitGroup
	for range 8 {
		group.Go(func() {
			for range 100 {
				if got, e := r.Find("a"); got != "key of a" || e != api.OK {
					t.Error(got, e)
				}
				if got := r.Names(); !reflect.DeepEqual(got, []string{"a", "b"}) {
					t.Error(got)
				}
				one.Only()
				one.Find("x")
				r.Uses("a")
				r.Has("b")
			}
		})
	}
	group.Wait()
	if r.Uses("a") != 800 || r.Uses("b") != 0 || one.Uses("x") != 1600 {
		t.Error(r.Uses("a"), r.Uses("b"), one.Uses("x"))
	}
}

// P21.3
func TestNil(t *testing.T) {
	for _, r := range []*ring.Ring{nil, {}} {
		if got, e := r.Find("a"); got != "" || e != api.ErrNil {
			t.Error(got, e)
		}
		if name, key, e := r.Only(); name+key != "" || e != api.ErrNil {
			t.Error(name, key, e)
		}
		if r.Has("a") || r.Names() != nil || r.Uses("a") != 0 {
			t.Error("none")
		}
	}
}
