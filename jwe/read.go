package jwe

import (
	"strconv"
	"strings"

	"pyxis/api"
	"pyxis/base"
	"pyxis/der"
	"pyxis/json"
	"pyxis/suite"
)

// text is what stands in a text: its envelope, and the headers, of which that is made.
type text struct {
	api.Envelope
	lim       api.Limits
	protected []api.Value
	loose     []api.Value   // nil: there is none
	owns      [][]api.Value // of each recipient; nil: there is none
}

// Read makes an envelope of a text.
func Read(s string, lim api.Limits) (api.Envelope, api.Errno) {
	if !der.May(lim) {
		return api.Envelope{}, api.ErrArg
	}
	t := &text{lim: lim}
	split := t.compact
	if strings.HasPrefix(strings.TrimLeft(s, " \t\n\r"), "{") {
		split = t.object
	}
	e := split(s)
	for _, ask := range [6]func() api.Errno{t.header, t.supported, t.cipher, t.recipients, t.lengths, t.told} {
		if e == api.OK {
			e = ask()
		}
	}
	if e != api.OK {
		return api.Envelope{}, e
	}
	return t.Envelope, api.OK
}

// unless is no error, if something holds.
func unless(holds bool, e api.Errno) api.Errno {
	if holds {
		return api.OK
	}
	return e
}

// part decodes a value, if it is a string that is one.
func part(value []api.Value) (string, api.Errno) {
	if value[0].Kind != api.JString {
		return "", api.ErrForm
	}
	out, _, e := base.Decode(value[0].Text)
	return out, e
}

// some is a part that isn't empty.
func some(value []api.Value) (string, api.Errno) {
	out, e := part(value)
	if out == "" {
		return "", api.ErrForm
	}
	return out, e
}

// compact takes five texts apart.
func (t *text) compact(s string) api.Errno {
	if len(s) > t.lim.Bytes {
		return api.ErrLimit
	}
	five := strings.Split(s, ".")
	if len(five) != 5 {
		return api.ErrForm
	}
	var decoded [5]string
	for i := range five {
		part, _, e := base.Decode(five[i])
		if e != api.OK {
			return e
		}
		decoded[i] = part
	}
	t.Format = api.Compact
	t.Header = strings.Clone(five[0])
	t.To = []api.Recipient{{Key: decoded[1]}}
	t.owns = [][]api.Value{nil}
	t.IV, t.Cipher, t.Tag = decoded[2], decoded[3], decoded[4]
	return api.OK
}

// object goes through the members of one, and asks which are there when all were gone through.
func (t *text) object(s string) api.Errno {
	values, _, e := json.Decode(s, t.lim)
	if e != api.OK {
		return e
	}
	t.Format = api.Flat
	t.To = []api.Recipient{{}}
	t.owns = [][]api.Value{nil}
	there := map[string]int{}
	for i, m := range members(values) {
		if e := t.member(m); e != api.OK {
			return e
		}
		there[m.name] = i + 1
	}
	for _, name := range [4]string{"protected", "iv", "ciphertext", "tag"} {
		if there[name] == 0 {
			return api.ErrForm
		}
	}
	return unless(there["recipients"] == 0 || there["header"] == 0 && there["encrypted_key"] == 0, api.ErrForm)
}

// member takes one of an object.
func (t *text) member(m member) api.Errno {
	e := api.OK
	switch m.name {
	case "protected":
		_, e = part(m.value)
		t.Header = m.value[0].Text
	case "iv":
		t.IV, e = part(m.value)
	case "ciphertext":
		t.Cipher, e = part(m.value)
	case "tag":
		t.Tag, e = part(m.value)
	case "aad":
		t.Aad, e = some(m.value)
	case "unprotected":
		t.loose = m.value
		e = unless(m.kind() == api.JObject, api.ErrForm)
	case "recipients":
		e = t.list(m)
	default:
		e = t.own(m, 0)
	}
	return e
}

// list takes the recipients of an object.
func (t *text) list(m member) api.Errno {
	if m.kind() != api.JArray || m.value[0].Kids == 0 {
		return api.ErrForm
	}
	if m.value[0].Kids > api.MaxTo {
		return api.ErrLimit
	}
	t.Format = api.General
	t.To = make([]api.Recipient, m.value[0].Kids)
	t.owns = make([][]api.Value, m.value[0].Kids)
	for i, value := range elements(m.value) {
		if value[0].Kind != api.JObject {
			return api.ErrForm
		}
		for _, m := range members(value) {
			if e := t.own(m, i); e != api.OK {
				return e
			}
		}
	}
	return api.OK
}

// own takes a member that is a recipient's.
func (t *text) own(m member, i int) api.Errno {
	e := api.OK
	switch m.name {
	case "header":
		t.owns[i] = m.value
		e = unless(m.kind() == api.JObject, api.ErrForm)
	case "encrypted_key":
		t.To[i].Key, e = some(m.value)
	default:
		e = api.ErrKind
	}
	return e
}

// header reads the protected one.
func (t *text) header() api.Errno {
	decoded, _, _ := base.Decode(t.Header)
	values, _, e := json.Decode(decoded, t.lim)
	if e != api.OK {
		return e
	}
	t.protected = values
	return unless(values[0].Kind == api.JObject && values[0].Kids > 0, api.ErrForm)
}

// supported asks for members that say that more must be understood.
func (t *text) supported() api.Errno {
	for _, header := range append([][]api.Value{t.protected, t.loose}, t.owns...) {
		for _, m := range members(header) {
			if m.name == "crit" || m.name == "zip" {
				return api.ErrKind
			}
		}
	}
	return api.OK
}

// shared are the members of the headers that all recipients have.
func (t *text) shared() []member {
	return append(members(t.protected), members(t.loose)...)
}

// find tells the value of a name; nil, if there is none.
func find(l []member, name string) []api.Value {
	for _, m := range l {
		if m.name == name {
			return m.value
		}
	}
	return nil
}

// isString says whether there is a value, and it is a string.
func isString(value []api.Value) bool {
	return value != nil && value[0].Kind == api.JString
}

func (t *text) cipher() api.Errno {
	enc := find(t.shared(), "enc")
	if !isString(enc) {
		return api.ErrForm
	}
	t.Alg = cipherOf(enc[0].Text)
	return unless(t.Alg > 0, api.ErrKind)
}

func (t *text) recipients() api.Errno {
	for i := range t.To {
		if e := t.recipient(i); e != api.OK {
			return e
		}
	}
	return api.OK
}

// recipient asks for what one's headers say, and for its key.
func (t *text) recipient(i int) api.Errno {
	head := append(t.shared(), members(t.owns[i])...)
	seen := map[string]int{}
	for _, m := range head {
		seen[m.name]++
		if seen[m.name] > 1 {
			return api.ErrForm
		}
	}
	alg := find(head, "alg")
	if !isString(alg) {
		return api.ErrForm
	}
	to := wayOf(alg[0].Text)
	if to.Way == 0 {
		return api.ErrKind
	}
	to.Key = t.To[i].Key
	if kid := find(head, "kid"); kid != nil {
		to.Name = kid[0].Text
		if !isString(kid) || len(to.Name) < 1 || len(to.Name) > api.MaxName {
			return api.ErrForm
		}
	}
	if to.Way == api.Password {
		if e := t.password(head, &to); e != api.OK {
			return e
		}
	}
	t.To[i] = to
	if to.Way == api.Direct {
		return unless(to.Key == "" && len(t.To) == 1, api.ErrForm)
	}
	row, _ := suite.Of(t.Alg)
	return unless(len(to.Key) == row.Key+8, api.ErrForm)
}

// password asks for what a password's key is made with.
func (t *text) password(head []member, to *api.Recipient) api.Errno {
	salt, rounds := find(head, "p2s"), find(head, "p2c")
	if salt == nil {
		return api.ErrForm
	}
	bytes, e := part(salt)
	if e != api.OK || len(bytes) < 8 || len(bytes) > 1000 {
		return api.ErrForm
	}
	to.Salt = bytes
	if rounds == nil || rounds[0].Kind != api.JNumber || strings.Trim(rounds[0].Text, "0123456789") != "" || rounds[0].Text == "0" {
		return api.ErrForm
	}
	n, err := strconv.Atoi(rounds[0].Text)
	if err != nil || n > t.lim.Rounds { // digits that are no int are too many
		return api.ErrLimit
	}
	to.Rounds = n
	return api.OK
}

// lengths asks for those of the cipher.
func (t *text) lengths() api.Errno {
	row, _ := suite.Of(t.Alg)
	chained := t.Alg >= api.A128CBC
	most := api.MaxText
	if chained {
		most += 16
	}
	switch {
	case len(t.IV) != row.IV || len(t.Tag) != row.Tag:
		return api.ErrForm
	case chained && (len(t.Cipher) < 16 || len(t.Cipher)%16 != 0):
		return api.ErrForm
	case len(t.Cipher) > most || len(Beside(t.Envelope)) > api.MaxText:
		return api.ErrLimit
	}
	return api.OK
}

// told tells the headers that aren't protected.
func (t *text) told() api.Errno {
	e := api.OK
	if t.loose != nil {
		t.Loose, e = json.Encode(t.loose)
	}
	for i, own := range t.owns {
		if own != nil && e == api.OK {
			t.To[i].Loose, e = json.Encode(own)
		}
	}
	return e
}
