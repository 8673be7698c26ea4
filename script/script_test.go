package script_test

import (
	"encoding/hex"
	"fmt"
	"strings"
	"testing"

	"pyxis/api"
	"pyxis/script"
)

// does hands lines to a session, and asks for their answers.
func does(t *testing.T, s *script.Session, lines, answers []string) {
	t.Helper()
	for i, line := range lines {
		if got := s.Do(line); got != answers[i] {
			t.Errorf("%.80s: %.400s, not %.400s", line, got, answers[i])
		}
	}
}

// lines are told with / between.
func lines(s string) []string { return strings.Split(s, " / ") }

// The ten examples of the whole; the third one goes on with the second one's session.
func TestExamples(t *testing.T) {
	var s *script.Session
	for i, c := range [][2]string{
		{"names / key a 61 / names / uses a / drop a / drop a", "-; ok; 61; 0; ok; error 12"},
		{"key k 30313233343536373839616263646566 / plan 5 1 0 / to 1 0 0 k - 0 - / draw - 303132333435363738396162 - / seal 616263 / open . / uses k", "ok; ok; ok; ok; d08343a10101a204416b054c3031323334353637383961625303206ef55e3a79a33ab92c0b0b4d120eaab80f; 616263; 2"},
		{"beside 78 / open . / look . / again .", "ok; error 8; 5 1 1 3 18 0 12 3 16 1 0 0 0 6b; d08343a10101a204416b054c3031323334353637383961625303206ef55e3a79a33ab92c0b0b4d120eaab80f"},
		{"key k 30313233343536373839616263646566 / plan 2 1 0 / to 1 0 0 k - 0 - / draw - 303132333435363738396162 - / seal - / look . / open .", "ok; ok; ok; ok; 65794a68624763694f694a6b615849694c434a6c626d4d694f694a424d54493452304e4e4969776961326c6b496a6f6961794a392e2e4d4445794d7a51314e6a63344f5746692e2e7a2d59537854654c726173414c35432d33356e583141; 2 1 1 52 0 0 12 0 16 1 0 0 0 6b; -"},
		{"key k 30313233343536373839616263646566 / plan 6 104 0 / to 1 0 0 k - 0 - / draw - - - / seal 61", "ok; ok; ok; ok; error 12"},
		{"key k 30313233343536373839616263646566 / plan 6 125 0 / to 1 0 0 k - 0 - / draw - - - / seal 61 / open . / drop k / open .", "ok; ok; ok; ok; d18444a1011819a104416b416150885df4642cf39cf13a896cfce056d92a; 61; ok; error 12"},
		{"limits 1 1 1 1 / open - / open 30 / open 3000 / limits 0 1 1 1", "ok; error 9; error 9; error 10; error 2"},
		{"look 3003020105 / look c1f6 / look d083404000 / look 2e2e2e2e", "error 9; error 11; error 9; error 9"},
		{"open / key a / x / seal 6A", "error 15; error 15; error 15; error 15"},
		{"plan 1 1 12 / seal 61 / to 3 16 256 - 73616c7473616c74 1 30313233343536373839616263646566 / seal 61 / key password 70 / draw 30313233343536373839616263646566 303132333435363738396162 303132333435363738396162 / seal 61 / open .", "ok; error 2; ok; error 12; ok; ok; 3081d2060b2a864886f70d0109100117a081c23081bf020100317fa37d020100a02806092a864886f70d01050c301b040873616c7473616c74020101300c06082a864886f70d02090500302c060b2a864886f70d0109100309301d060960864801650304010204103031323334353637383961626364656604203c3ff2d753749301b8e63ffc37ce26d6db6f1ab0c097aaf68a627b3800489a79302b06092a864886f70d010701301b0609608648016503040106300e040c303132333435363738396162800103040c9209b79e4464d74db82d2f87; 61"},
	} {
		if i != 2 {
			s = script.New()
		}
		does(t, s, lines(c[0]), strings.Split(c[1], "; "))
		if i == 2 {
			continue
		}
		if got, e := script.Run(strings.Join(lines(c[0]), "\n")); got != strings.ReplaceAll(c[1], "; ", "\n")+"\n" || e != api.OK {
			t.Errorf("%d: %s, %v", i, got, e)
		}
	}
}

// P27.1: the words of lines.
func TestWords(t *testing.T) {
	s := script.New()
	for _, line := range []string{
		"", " ", "key", "key a", "key a 61 62", "key  a 61", " key a 61", "key a 61 ", "key a 6", "key a 6A", "key a 6g", "key a .", "key a", "Key a 61", "KEY a 61", "key\ta 61", "#", "# names", "names ", "names x", " names", "names\r", "names\n", "drop", "drop a b", "uses", "uses a b",
		"limits 1 1 1", "limits 1 1 1 1 1", "limits 01 1 1 1", "limits +1 1 1 1", "limits -1 1 1 1", "limits 1 1 1 1234567890", "limits a 1 1 1", "limits 1 1 1 -", "limits 1  1 1", "limits 00 1 1 1", "limits 1.0 1 1 1", "limits ١ 1 1 1",
		"beside", "beside x", "beside .", "beside 6", "beside 61 62", "beside --", "plan 1 1", "plan 1 1 1 1", "plan - 1 1", "plan 1 1 x", "to 1 0 0 k - 0", "to 1 0 0 k - 0 - -", "to x 0 0 k - 0 -", "to 1 0 0 k x 0 -", "to 1 0 0 k - x -", "to 1 0 0 k - 0 x", "to 1 0 0  - 0 -", "to 1 0 - k - 0 -", "draw - -", "draw - - - -", "draw . - -", "draw x - -", "draw - 6 -", "draw - - 6G",
		"seal", "seal .", "seal 6", "seal 61 61", "open", "open x", "open 6A", "open ..", "open . .", "look", "look x", "look 1", "again", "again x", "again 123", "x", "sealed 61", "message",
	} {
		if got := s.Do(line); got != "error 15" {
			t.Errorf("%q: %s", line, got)
		}
	}
	if got := s.Do("names"); got != "-" {
		t.Error(got)
	}
	does(t, s, lines("limits 1 1 1 123456789 / limits 0 0 0 0 / plan 999999999 0 0"), lines("error 2 / error 2 / ok"))
	does(t, s, lines("key - 61 / drop - / uses - / key a - / key - - / uses nobody / key \xff 00 / names / key -- 61 / key . 62 / names / uses . / drop -- / names"),
		lines("error 2 / error 12 / 0 / error 2 / error 2 / 0 / ok / ff / ok / ok / 2d2d 2e ff / 0 / ok / 2e ff"))
}

// P27.1: keys, and their uses.
func TestKeys(t *testing.T) {
	s := script.New()
	for i := range 64 {
		if got := s.Do(fmt.Sprintf("key k%d 61", i)); got != "ok" {
			t.Fatal(i, got)
		}
	}
	does(t, s, lines("key k64 61 / key k1 61 / drop k0 / key k1 61 / key k64 - / key "+strings.Repeat("n", 129)+" 61 / key k64 "+strings.Repeat("61", 1025)+" / key k64 "+strings.Repeat("61", 1024)+" / key k65 61"),
		lines("error 10 / error 10 / ok / error 13 / error 2 / error 2 / error 2 / ok / error 10"))
	s = script.New()
	key := hex.EncodeToString([]byte("0123456789abcdef"))
	iv := hex.EncodeToString([]byte("0123456789ab"))
	does(t, s, lines("key k "+key+" / plan 3 1 0 / to 1 0 0 k - 0 - / draw - "+iv+" - / uses k"), lines("ok / ok / ok / ok / 0"))
	s.Do("seal 61")
	does(t, s, lines("uses k / open . / uses k / look . / uses k / beside 78 / open . / uses k / key k 61 / uses k / drop x / uses k / x / uses k / key l 61 / uses k / names / open . / beside - / open . / drop l / uses k / open . / uses k / drop k / uses k"),
		lines("1 / 61 / 2 / 3 1 1 52 0 0 12 1 16 1 0 0 0 6b / 2 / ok / error 8 / 3 / error 13 / 3 / error 12 / 3 / error 15 / 3 / ok / 0 / 6b 6c / error 8 / ok / 61 / ok / 0 / 61 / 1 / ok / 0"))
}

// P27.1: a line with an error has done nothing.
func TestRefused(t *testing.T) {
	s := script.New()
	key := hex.EncodeToString([]byte("0123456789abcdef"))
	iv := hex.EncodeToString([]byte("0123456789ab"))
	does(t, s, lines("key k "+key+" / plan 5 1 0 / to 1 0 0 k - 0 - / draw - "+iv+" -"), lines("ok / ok / ok / ok"))
	sealed := s.Do("seal 616263")
	again := func() {
		t.Helper()
		if got := s.Do("again ."); got != sealed {
			t.Errorf("%s, not %s", got, sealed)
		}
	}
	again()
	for _, line := range []string{"limits 0 1 1 1", "limits 33 1 1 1", "limits 1 4097 1 1", "limits 1 1 262145 1", "limits 1 1 1 4097"} {
		does(t, s, []string{line}, []string{"error 2"})
		again()
	}
	// A message that isn't sealed leaves the one that is there.
	does(t, s, lines("to 1 0 0 k - 0 - / seal 61"), lines("ok / error 2"))
	again()
	does(t, s, lines("plan 5 1 0 / seal 61 / to 1 0 0 k - 0 - / seal 61 / draw - "+iv+" -"), lines("ok / error 2 / ok / error 4 / ok"))
	again()
	if got := s.Do("seal 616263"); got != sealed {
		t.Error(got)
	}
	// A plan is without recipients, key, iv and filling.
	does(t, s, lines("plan 5 1 0 / draw "+key+" "+iv+" 61 / plan 5 1 0 / to 1 0 0 k - 0 - / seal 61 / draw - "+iv+" -"), lines("ok / ok / ok / ok / error 4 / ok"))
	if got := s.Do("seal 616263"); got != sealed {
		t.Error(got)
	}
	// Eight recipients, and one more.
	does(t, s, []string{"plan 1 1 0"}, []string{"ok"})
	for range 8 {
		does(t, s, []string{"to 2 16 0 k - 0 -"}, []string{"ok"})
	}
	does(t, s, lines("to 2 16 0 k - 0 - / draw "+key+" "+iv+" - / beside 626573696465"), lines("error 10 / ok / ok"))
	if got := s.Do("seal 61"); strings.HasPrefix(got, "error") {
		t.Error(got)
	}
	does(t, s, lines("look . / open . / uses k"), []string{"1 1 8 51 0 0 12 1 12" + strings.Repeat(" 2 16 0 0 6b", 8), "61", "14"})
}

// P27.1: look tells all fields, each in its place.
func TestLook(t *testing.T) {
	s := script.New()
	key := hex.EncodeToString([]byte(strings.Repeat("k", 32)))
	iv := hex.EncodeToString([]byte("0123456789ab"))
	does(t, s, lines("key k "+key+" / key password 70 / plan 4 2 0 / to 2 32 7 k 61 9 62 / to 3 5 384 password 73616c7473616c74 3 - / draw "+hex.EncodeToString([]byte(strings.Repeat("m", 24)))+" "+iv+" - / beside 6265"), lines("ok / ok / ok / ok / ok / ok / ok"))
	if got := s.Do("seal 616263"); strings.HasPrefix(got, "error") {
		t.Fatal(got)
	}
	does(t, s, lines("look . / open . / limits 32 4096 262144 2 / look . / open . / limits 32 4096 262144 3 / open ."), lines("4 2 2 23 0 2 12 3 16 2 32 0 0 6b 3 24 384 3 70617373776f7264 / 616263 / ok / error 10 / error 10 / ok / 616263"))
	does(t, s, lines("plan 6 104 0 / to 1 0 0 - - 0 - / drop password / draw - - -"), lines("ok / ok / ok / ok"))
	if got := s.Do("seal 61"); strings.HasPrefix(got, "error") {
		t.Error(got)
	}
	does(t, s, []string{"look ."}, []string{"6 104 1 3 1 0 0 1 8 1 0 0 0 -"})
}

// P27.1
func TestNil(t *testing.T) {
	var s *script.Session
	for _, line := range []string{"", "names", "x", "key a 61"} {
		if got := s.Do(line); got != "error 1" {
			t.Errorf("%q: %s", line, got)
		}
	}
}

// P27.1: a new session's message is empty, its plan is zero, and its limits are the greatest.
func TestNew(t *testing.T) {
	s := script.New()
	does(t, s, lines("open . / look . / again . / seal 61 / beside 61 / uses a / names"), lines("error 9 / error 9 / error 9 / error 11 / ok / 0 / -"))
	long := strings.Repeat("20", 262144)
	does(t, s, lines("look "+long+" / look "+long+"20"), lines("error 9 / error 10"))
	// Two sessions have nothing together.
	a, b := script.New(), script.New()
	does(t, a, []string{"key a 61"}, []string{"ok"})
	does(t, b, []string{"names"}, []string{"-"})
}

// P27.2
func TestRun(t *testing.T) {
	for _, c := range []struct {
		text, want string
		e          api.Errno
	}{
		{"", "", api.OK}, {"\n", "", api.OK}, {"names\n", "-\n", api.OK}, {"names", "-\n", api.OK}, {"x", "error 15\n", api.OK}, {"key a 61\nnames", "ok\n61\n", api.OK}, {"limits 0 1 1 1", "error 2\n", api.OK}, {"\n\n#x\nnames\n\n# names\n", "-\n", api.OK}, {"# key a 61\n#\nnames", "-\n", api.OK}, {" #\n", "error 15\n", api.OK}, {" \n", "error 15\n", api.OK}, {"names\r\n", "error 15\n", api.OK}, {"names\n\nnames", "-\n-\n", api.OK},
		{strings.Repeat("\n", 512), "", api.OK}, {strings.Repeat("\n", 513), "", api.ErrLimit}, {strings.Repeat("\n", 511) + "names", "-\n", api.OK}, {strings.Repeat("\n", 512) + "names", "", api.ErrLimit}, {strings.Repeat("#\n", 512), "", api.OK}, {strings.Repeat("#\n", 512) + "#", "", api.ErrLimit}, {strings.Repeat("names\n", 512), strings.Repeat("-\n", 512), api.OK},
		{"#" + strings.Repeat("x", 262143), "", api.OK}, {"#" + strings.Repeat("x", 262144), "", api.ErrLimit}, {"look " + strings.Repeat("20", 131069), "error 9\n", api.OK},
	} {
		if got, e := script.Run(c.text); got != c.want || e != c.e {
			t.Errorf("%.60q: %.60q, %v", c.text, got, e)
		}
	}
	// W7: lines do what a session does, one by one.
	text := "key k 30313233343536373839616263646566\nplan 5 1 0\n\nto 1 0 0 k - 0 -\n# drawn\ndraw - 303132333435363738396162 -\nseal 616263\nopen .\nbeside 61\nopen .\nuses k\nnames x\n"
	s := script.New()
	want := ""
	for _, line := range strings.Split(text, "\n") {
		if line != "" && line[0] != '#' {
			want += s.Do(line) + "\n"
		}
	}
	if got, e := script.Run(text); got != want || e != api.OK {
		t.Errorf("%s, %v", got, e)
	}
}
