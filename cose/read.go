package cose

import (
	"strings"

	"pyxis/api"
	"pyxis/cbor"
	"pyxis/suite"
)

// label is a key of a header.
type label struct {
	kind int
	num  uint64
	text string
}

// The labels that are known.
const (
	algLabel     = 1
	critLabel    = 2
	nameLabel    = 4
	ivLabel      = 5
	partialLabel = 6
)

// pair is a label, and the value behind it with all that it holds.
type pair struct {
	label label
	value []api.Atom
}

// message is what is read step by step.
type message struct {
	api.Envelope
	lim       api.Limits
	protected []api.Atom // a map; nil: there is none
	loose     []api.Atom
	pairs     []pair // of both
}

// Read makes an envelope of bytes.
func Read(s string, lim api.Limits) (api.Envelope, api.Errno) {
	atoms, _, e := cbor.Decode(s, lim)
	if e != api.OK {
		return api.Envelope{}, e
	}
	m := &message{lim: lim}
	e = m.item(atoms)
	for _, ask := range [4]func() api.Errno{m.labels, m.cipher, m.name, m.lengths} {
		if e == api.OK {
			e = ask()
		}
	}
	if e != api.OK {
		return api.Envelope{}, e
	}
	return m.Envelope, api.OK
}

// first is the item that a list begins with, with all that it holds.
func first(l []api.Atom) []api.Atom {
	end := 0
	for wanted := 1; wanted > 0; end++ {
		wanted += held(l[end]) - 1
	}
	return l[:end]
}

// held is how many items an item holds, of those in a list that is one item.
func held(a api.Atom) int {
	switch a.Kind {
	case api.CArray:
		return int(a.Num)
	case api.CMap:
		return 2 * int(a.Num)
	case api.CTag:
		return 1
	}
	return 0
}

// within are the items that one holds, each with all that it holds.
func within(l []api.Atom) [][]api.Atom {
	var out [][]api.Atom
	for at := 1; at < len(l); {
		part := first(l[at:])
		out = append(out, part)
		at += len(part)
	}
	return out
}

// item takes the tag and the array apart.
func (m *message) item(atoms []api.Atom) api.Errno {
	if atoms[0].Kind != api.CTag {
		return api.ErrForm
	}
	wanted := uint64(3)
	switch atoms[0].Num {
	case encryptTag:
		m.Format = api.Encrypt0
	case macTag:
		m.Format = api.Mac0
		wanted = 4
	default:
		return api.ErrKind
	}
	if atoms[1].Kind != api.CArray || atoms[1].Num != wanted {
		return api.ErrForm
	}
	parts := within(atoms[1:])
	if e := m.header(parts[0][0]); e != api.OK {
		return e
	}
	m.loose = parts[1]
	if m.loose[0].Kind != api.CMap {
		return api.ErrForm
	}
	m.Loose, _ = cbor.Encode(m.loose)
	return m.texts(parts[2:])
}

// header reads the protected one.
func (m *message) header(a api.Atom) api.Errno {
	if a.Kind != api.CBytes {
		return api.ErrForm
	}
	m.Header = a.Text
	if a.Text == "" {
		return api.OK
	}
	atoms, _, e := cbor.Decode(a.Text, m.lim)
	if e != api.OK {
		return e
	}
	if atoms[0].Kind != api.CMap || atoms[0].Num == 0 {
		return api.ErrForm
	}
	m.protected = atoms
	return api.OK
}

// texts takes the third item, and, of Mac0, the fourth.
func (m *message) texts(parts [][]api.Atom) api.Errno {
	third, last := parts[0][0], parts[len(parts)-1][0]
	if third.Kind == api.CSimple && third.Num == 22 {
		return api.ErrKind
	}
	if third.Kind != api.CBytes || last.Kind != api.CBytes {
		return api.ErrForm
	}
	m.Cipher = third.Text
	if m.Format == api.Mac0 {
		m.Tag = last.Text
	}
	return api.OK
}

// labels takes the pairs of both headers; no label may be in both.
func (m *message) labels() api.Errno {
	protected, ok := pairs(m.protected)
	loose, ok2 := pairs(m.loose)
	if !ok || !ok2 {
		return api.ErrForm
	}
	known := map[label]int{}
	for i, p := range protected {
		known[p.label] = i + 1
	}
	for _, p := range loose {
		if known[p.label] > 0 {
			return api.ErrForm
		}
	}
	m.pairs = append(protected, loose...)
	if m.find(critLabel) != nil || m.find(partialLabel) != nil {
		return api.ErrKind
	}
	return api.OK
}

// pairs are those of a header; false: a key is no label.
func pairs(header []api.Atom) ([]pair, bool) {
	var out []pair
	parts := within(header)
	for i := 0; i < len(parts); i += 2 {
		key := parts[i][0]
		if key.Kind != api.CUint && key.Kind != api.CNeg && key.Kind != api.CText {
			return nil, false
		}
		out = append(out, pair{label{key.Kind, key.Num, key.Text}, parts[i+1]})
	}
	return out, true
}

// find tells the value of a label; nil, if there is none.
func (m *message) find(num uint64) []api.Atom {
	wanted := label{kind: api.CUint, num: num}
	for _, p := range m.pairs {
		if p.label == wanted {
			return p.value
		}
	}
	return nil
}

func (m *message) cipher() api.Errno {
	alg := m.find(algLabel)
	if alg == nil {
		return api.ErrForm
	}
	if alg[0].Kind != api.CUint || alg[0].Num > mostAlg {
		return api.ErrKind
	}
	m.Alg = int(alg[0].Num)
	if m.Format == api.Mac0 {
		m.Alg += macAlgs
	}
	if formatOf(m.Alg) != m.Format {
		return api.ErrKind
	}
	return api.OK
}

func (m *message) name() api.Errno {
	to := api.Recipient{Way: api.Direct}
	if name := m.find(nameLabel); name != nil {
		to.Name = name[0].Text
		if name[0].Kind != api.CBytes || len(to.Name) < 1 || len(to.Name) > api.MaxName {
			return api.ErrForm
		}
	}
	m.To = []api.Recipient{to}
	return api.OK
}

// lengths asks for those of the cipher, or of the tag alone.
func (m *message) lengths() api.Errno {
	row, _ := suite.Of(m.Alg)
	if m.Format == api.Mac0 {
		if len(m.Tag) != row.Tag {
			return api.ErrForm
		}
	} else {
		iv := m.find(ivLabel)
		n := len(m.Cipher) - row.Tag
		if iv == nil || iv[0].Kind != api.CBytes || len(iv[0].Text) != row.IV || n < 0 {
			return api.ErrForm
		}
		m.IV, m.Cipher, m.Tag = iv[0].Text, strings.Clone(m.Cipher[:n]), strings.Clone(m.Cipher[n:])
	}
	if len(m.Cipher) > api.MaxText || row.IV == 13 && len(m.Cipher) >= 65536 {
		return api.ErrLimit
	}
	return api.OK
}
