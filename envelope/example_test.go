package envelope_test

import (
	"encoding/hex"
	"testing"

	"pyxis/api"
	"pyxis/envelope"
	"pyxis/ring"
)

func bin(s string) string {
	b, err := hex.DecodeString(s)
	if err != nil {
		panic(err)
	}
	return string(b)
}

var most = api.Limits{Depth: 32, Items: 4096, Bytes: 262144, Rounds: 4096}

func rings(t testing.TB, l ...string) *ring.Ring {
	t.Helper()
	var entries []api.Entry
	for i := 0; i < len(l); i += 2 {
		entries = append(entries, api.Entry{Name: l[i], Key: l[i+1]})
	}
	r, e := ring.New(entries)
	if e != api.OK {
		t.Fatal(e)
	}
	return r
}

// The examples of the whole that seal.
func TestExamples(t *testing.T) {
	key, iv := "0123456789abcdef", "0123456789ab"
	k := rings(t, "k", key)
	for i, c := range []struct {
		p    api.Plan
		r    *ring.Ring
		text string
		want string
	}{
		{api.Plan{Format: 5, Alg: 1, To: []api.Recipient{{Way: 1, Name: "k"}}, IV: iv}, k, "abc", "d08343a10101a204416b054c3031323334353637383961625303206ef55e3a79a33ab92c0b0b4d120eaab80f"},
		{api.Plan{Format: 2, Alg: 1, To: []api.Recipient{{Way: 1, Name: "k"}}, IV: iv}, k, "", "65794a68624763694f694a6b615849694c434a6c626d4d694f694a424d54493452304e4e4969776961326c6b496a6f6961794a392e2e4d4445794d7a51314e6a63344f5746692e2e7a2d59537854654c726173414c35432d33356e583141"},
		{api.Plan{Format: 6, Alg: 125, To: []api.Recipient{{Way: 1, Name: "k"}}}, k, "a", "d18444a1011819a104416b416150885df4642cf39cf13a896cfce056d92a"},
		{api.Plan{Format: 1, Alg: 1, Tag: 12, To: []api.Recipient{{Way: 3, Size: 16, Kind: 256, Salt: "saltsalt", Rounds: 1, IV: key}}, Key: key, IV: iv, Fill: iv}, rings(t, "password", "p"), "a", "3081d2060b2a864886f70d0109100117a081c23081bf020100317fa37d020100a02806092a864886f70d01050c301b040873616c7473616c74020101300c06082a864886f70d02090500302c060b2a864886f70d0109100309301d060960864801650304010204103031323334353637383961626364656604203c3ff2d753749301b8e63ffc37ce26d6db6f1ab0c097aaf68a627b3800489a79302b06092a864886f70d010701301b0609608648016503040106300e040c303132333435363738396162800103040c9209b79e4464d74db82d2f87"},
	} {
		got, e := envelope.Seal(c.p, c.r, "", c.text, most)
		if e != api.OK || got != bin(c.want) {
			t.Errorf("%d: %x, %v", i, got, e)
		}
		if text, e := envelope.Open(bin(c.want), c.r, "", most); text != c.text || e != api.OK {
			t.Errorf("%d: %q, %v", i, text, e)
		}
		if text, e := envelope.Open(bin(c.want), c.r, "x", most); text != "" || e != api.ErrAuth {
			t.Errorf("%d: %q, %v", i, text, e)
		}
		if text, e := envelope.Open(bin(c.want), rings(t), "", most); text != "" || e != api.ErrNone {
			t.Errorf("%d: %q, %v", i, text, e)
		}
	}
	if text, e := envelope.Open("", k, "", most); text != "" || e != api.ErrForm {
		t.Error(text, e)
	}
}
