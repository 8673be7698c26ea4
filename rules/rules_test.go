// Package rules_test asks of all listed calls what DOC.md's rules R1 and R2 say of them, at many arguments.
package rules_test

import (
	"math/rand"
	"reflect"
	"runtime"
	"strings"
	"testing"

	"pyxis/aes"
	"pyxis/api"
	"pyxis/base"
	"pyxis/cbc"
	"pyxis/cbchs"
	"pyxis/cbor"
	"pyxis/cborfeed"
	"pyxis/ccm"
	"pyxis/cms"
	"pyxis/cose"
	"pyxis/ctr"
	"pyxis/der"
	"pyxis/derfeed"
	"pyxis/envelope"
	"pyxis/gcm"
	"pyxis/ghash"
	"pyxis/hmac"
	"pyxis/json"
	"pyxis/jsonfeed"
	"pyxis/jwe"
	"pyxis/octet"
	"pyxis/pbkdf"
	"pyxis/recip"
	"pyxis/ring"
	"pyxis/script"
	"pyxis/sha"
	"pyxis/suite"
	"pyxis/wrap"
)

// calls are all that the chapters list, but methods.
var calls = []any{
	octet.Same, octet.Xor, octet.Put, octet.Get, octet.Add, octet.Hex, octet.Unhex, aes.Mul, aes.Sub, aes.Expand, aes.New, sha.Size, sha.Sum, sha.New, hmac.Sum, hmac.New, pbkdf.Key,
	cbc.Pad, cbc.Unpad, cbc.Chain, cbc.Unchain, cbc.Seal, cbc.Open, cbc.Mac, ctr.Next, ctr.Xor, ghash.Mul, ghash.Sum, gcm.Tag, gcm.Seal, gcm.Open, ccm.Tag, ccm.Seal, ccm.Open, cbchs.Tag, cbchs.Seal, cbchs.Open,
	wrap.Wrap, wrap.Unwrap, wrap.Value, suite.Of, suite.Seal, suite.Open, suite.Mac, suite.Check, base.Encode, base.Decode, der.May, der.Encode, der.Decode, json.Encode, json.Decode, cbor.Encode, cbor.Decode,
	derfeed.New, jsonfeed.New, cborfeed.New, ring.New, recip.Name, recip.Derive, recip.Fill, recip.Lock, recip.Unlock, cms.Read, cms.Tell, cms.Attributes, cms.Sorted, jwe.Read, jwe.Tell, jwe.Head, jwe.Heads, jwe.Beside,
	cose.Read, cose.Tell, cose.Heads, cose.Structure, envelope.Inspect, envelope.Reserialize, envelope.Open, envelope.Seal, envelope.New, script.New, script.Run,
}

// objects are of all types that have methods: nil, all zero, and made.
func objects() []any {
	c, _ := aes.New("0123456789abcdef")
	h, _ := sha.New(384)
	m, _ := hmac.New(256, "k")
	lim := api.Limits{Depth: 2, Items: 5, Bytes: 20, Rounds: 1}
	d, _ := derfeed.New(lim)
	j, _ := jsonfeed.New(lim)
	b, _ := cborfeed.New(lim)
	x, _ := envelope.New(lim)
	r, _ := ring.New([]api.Entry{{Name: "a", Key: "0123456789abcdef"}})
	return []any{
		(*aes.Cipher)(nil), &aes.Cipher{}, c, (*sha.Hash)(nil), &sha.Hash{}, h, (*hmac.Mac)(nil), &hmac.Mac{}, m, (*derfeed.Feed)(nil), &derfeed.Feed{}, d, (*jsonfeed.Feed)(nil), &jsonfeed.Feed{}, j,
		(*cborfeed.Feed)(nil), &cborfeed.Feed{}, b, (*ring.Ring)(nil), &ring.Ring{}, r, (*envelope.Intake)(nil), &envelope.Intake{}, x, (*script.Session)(nil), script.New(),
	}
}

// some makes a value of a type: lengths and numbers that are edges come often.
func some(r *rand.Rand, t reflect.Type) reflect.Value {
	v := reflect.New(t).Elem()
	switch t.Kind() {
	case reflect.String:
		v.SetString(text(r))
	case reflect.Int:
		l := []int64{0, 1, 2, 3, 4, 5, 6, 7, 8, 10, 12, 13, 15, 16, 17, 24, 32, 104, 125, 201, 256, 384, 512, -1, -1 << 63, 1<<63 - 1, 4096, 262144, int64(r.Uint64()), int64(r.Intn(40))}
		v.SetInt(l[r.Intn(len(l))])
	case reflect.Uint64, reflect.Uint8:
		v.SetUint([]uint64{0, 1, 5, 16, 0x30, 0x31, 255, 1<<64 - 1, 1 << 63, r.Uint64()}[r.Intn(10)])
	case reflect.Slice:
		n := []int{0, 1, 2, 3, 9, 70}[r.Intn(6)]
		v.Set(reflect.MakeSlice(t, n, n+r.Intn(3)))
		for i := range n {
			v.Index(i).Set(some(r, t.Elem()))
		}
	case reflect.Struct:
		if t == reflect.TypeOf(api.Limits{}) && r.Intn(3) > 0 {
			return reflect.ValueOf(api.Limits{Depth: 1 + r.Intn(32), Items: 1 + r.Intn(4096), Bytes: 1 + r.Intn(262144), Rounds: 1 + r.Intn(20)})
		}
		for i := range t.NumField() {
			v.Field(i).Set(some(r, t.Field(i).Type))
		}
	case reflect.Pointer: // a ring
		key := strings.Repeat("k", []int{16, 24, 32}[r.Intn(3)])
		made, _ := ring.New([]api.Entry{{Name: "a", Key: key}, {Name: "password", Key: "p"}}[:1+r.Intn(2)])
		return reflect.ValueOf([]*ring.Ring{nil, {}, made}[r.Intn(3)])
	}
	return v
}

func text(r *rand.Rand) string {
	switch r.Intn(6) {
	case 0:
		return []string{"", "a", "-", ".", "password", "PBES2-HS256+A128KW", "{}", "30", "\xff", "names", "key a 61", "eyJhbGciOiJkaXIiLCJlbmMiOiJBMTI4R0NNIn0", "\x31\x00", "\xa0", "\xa1\x01\x01", `{"alg":"dir"}`}[r.Intn(16)]
	case 1:
		b := make([]byte, r.Intn(60))
		r.Read(b)
		return string(b)
	}
	n := []int{0, 1, 7, 8, 11, 12, 13, 15, 16, 17, 24, 32, 40, 48, 64, 128, 129, 255, 256, 1024, 1025, 1032}[r.Intn(22)]
	if r.Intn(60) == 0 {
		n = []int{65536, 70000, 70001, 70016, 140000, 140001, 210000, 262144, 262145}[r.Intn(9)]
	}
	return strings.Repeat([]string{"\x00", "k", "a", "\x81", "{", "0"}[r.Intn(6)], n)
}

// asked calls a function at some arguments, and asks of its answers what R1 and R2 say.
func asked(t *testing.T, r *rand.Rand, name string, f reflect.Value) {
	t.Helper()
	var in []reflect.Value
	for i := range f.Type().NumIn() {
		in = append(in, some(r, f.Type().In(i)))
	}
	defer func() {
		if x := recover(); x != nil {
			t.Fatalf("%s panics: %v, at %.2000v", name, x, in)
		}
	}()
	before := copies(in)
	out := f.Call(in)
	for i := range in {
		if in[i].Kind() != reflect.Pointer && !reflect.DeepEqual(in[i].Interface(), before[i]) {
			t.Fatalf("%s changed what it was given", name)
		}
	}
	if len(out) == 0 || out[len(out)-1].Type() != reflect.TypeOf(api.OK) || out[len(out)-1].Int() == 0 {
		return
	}
	for i, v := range out[:len(out)-1] {
		place := v.Kind() == reflect.Int && i == 1 // of a fault
		if !place && !v.IsZero() {
			t.Fatalf("%s answers %.200v beside error %d", name, v, out[len(out)-1].Int())
		}
	}
}

// copies are arguments with lists of their own.
func copies(in []reflect.Value) []any {
	var out []any
	for _, v := range in {
		if v.Kind() == reflect.Slice {
			c := reflect.MakeSlice(v.Type(), v.Len(), v.Len())
			reflect.Copy(c, v)
			v = c
		}
		if p, ok := v.Interface().(api.Plan); ok {
			p.To = append(make([]api.Recipient, 0, len(p.To)), p.To...)
			v = reflect.ValueOf(p)
		}
		if e, ok := v.Interface().(api.Envelope); ok {
			e.To = append(make([]api.Recipient, 0, len(e.To)), e.To...)
			v = reflect.ValueOf(e)
		}
		out = append(out, v.Interface())
	}
	return out
}

// R1, R2, R4
func TestCalls(t *testing.T) {
	r := rand.New(rand.NewSource(1))
	for _, c := range calls {
		f := reflect.ValueOf(c)
		for range 400 {
			asked(t, r, runtime.FuncForPC(f.Pointer()).Name(), f)
		}
	}
}

// R1, R2, R4
func TestMethods(t *testing.T) {
	r := rand.New(rand.NewSource(2))
	for range 150 {
		for _, o := range objects() {
			v := reflect.ValueOf(o)
			for range 4 {
				i := r.Intn(v.NumMethod())
				asked(t, r, v.Type().String()+"."+v.Type().Method(i).Name, v.Method(i))
			}
		}
	}
}
