package envelope

import (
	"pyxis/api"
	"pyxis/ccm"
	"pyxis/cms"
	"pyxis/cose"
	"pyxis/gcm"
	"pyxis/jwe"
	"pyxis/recip"
	"pyxis/suite"
)

const treeTag = 12 // bytes of a tag of a tree, if a plan doesn't say

// byCounter says whether a tree's cipher is layer 9; the others are layer 10.
func byCounter(alg int) bool {
	return alg <= api.A256GCM
}

func (byTree) keySize(_, alg int) int {
	switch alg {
	case api.A128GCM, api.A128CCM:
		return 16
	case api.A192GCM, api.A192CCM:
		return 24
	case api.A256GCM, api.A256CCM:
		return 32
	}
	return 0
}

func (byText) keySize(_, alg int) int {
	if alg > api.A256CBC {
		return 0
	}
	row, _ := suite.Of(alg)
	return row.Key
}

func (byItem) keySize(format, alg int) int {
	row, _ := suite.Of(alg)
	if alg >= api.A128CBC && alg <= api.A256CBC || (format == api.Mac0) != (row.IV == 0) {
		return 0
	}
	return row.Key
}

func (byTree) ivFits(alg int, iv string) bool {
	if byCounter(alg) {
		return len(iv) >= 1 && len(iv) <= api.MaxIV
	}
	return len(iv) >= 7 && len(iv) <= 13
}

// rowFits says whether an iv is as long as a cipher's row says.
func rowFits(alg int, iv string) bool {
	row, _ := suite.Of(alg)
	return len(iv) == row.IV
}

func (byText) ivFits(alg int, iv string) bool { return rowFits(alg, iv) }
func (byItem) ivFits(alg int, iv string) bool { return rowFits(alg, iv) }

func (byTree) tagFits(alg, size int) bool {
	switch {
	case size == 0 || size == treeTag:
		return true
	case byCounter(alg):
		return size >= 13 && size <= 16
	}
	return size >= 4 && size <= 16 && size%2 == 0
}

func (byText) tagFits(_, size int) bool { return size == 0 }
func (byItem) tagFits(_, size int) bool { return size == 0 }

func (byTree) narrow(alg int, iv string) bool { return !byCounter(alg) && len(iv) == 13 }
func (byText) narrow(int, string) bool        { return false }

func (byItem) narrow(alg int, _ string) bool {
	row, _ := suite.Of(alg)
	return row.IV == 13
}

func (byTree) recipientsFit(p api.Plan) bool {
	for _, to := range p.To {
		if !(to.Way == api.Wrapped && to.Name != "") && !(to.Way == api.Password && to.Name == "") {
			return false
		}
	}
	return len(p.To) >= 1 && len(p.To) <= api.MaxTo
}

func (byText) recipientsFit(p api.Plan) bool {
	for _, to := range p.To {
		alone := len(p.To) == 1 && to.Way == api.Direct
		if !alone && to.Way != api.Wrapped && to.Way != api.Password {
			return false
		}
	}
	return len(p.To) == 1 || p.Format == api.General && len(p.To) >= 1 && len(p.To) <= api.MaxTo
}

func (byItem) recipientsFit(p api.Plan) bool {
	return len(p.To) == 1 && p.To[0].Way == api.Direct
}

func (byTree) passwordFits(to api.Recipient, key, fill string) api.Errno {
	n, _ := recip.Fill(len(key))
	switch {
	case !keySize(to.Size):
		return api.ErrKey
	case len(to.IV) != 16:
		return api.ErrIV
	case len(fill) != n:
		return api.ErrArg
	}
	return api.OK
}

func (byText) passwordFits(api.Recipient, string, string) api.Errno { return api.OK }
func (byItem) passwordFits(api.Recipient, string, string) api.Errno { return api.OK }

func (byTree) begin(e *api.Envelope, _ api.Plan, aad string) {
	e.Header = cms.Attributes(aad)
	e.To = cms.Sorted(e.To)
}

func (byText) begin(e *api.Envelope, p api.Plan, aad string) {
	e.Aad = aad
	if p.Format != api.General {
		e.Header, _ = jwe.Head(p.Alg, e.To[0])
		return
	}
	e.Header, _, _ = jwe.Heads(p.Alg, e.To[0])
	for i, to := range e.To {
		_, e.To[i].Loose, _ = jwe.Heads(p.Alg, to)
	}
}

func (byItem) begin(e *api.Envelope, p api.Plan, _ string) {
	e.Header, e.Loose, _ = cose.Heads(p.Alg, e.To[0].Name, p.IV)
}

func (byTree) long(api.Envelope, string) bool { return false }
func (byText) long(api.Envelope, string) bool { return false }

func (byItem) long(e api.Envelope, aad string) bool {
	most := api.MaxText
	if e.Format == api.Mac0 {
		most = 2 * api.MaxText
	}
	return len(cose.Structure(e, aad)) > most
}

func (byTree) has(e api.Envelope, aad string) bool { return e.Header == cms.Attributes(aad) }
func (byText) has(e api.Envelope, aad string) bool { return e.Aad == aad }
func (byItem) has(api.Envelope, string) bool       { return true }

func (byTree) seal(e api.Envelope, key, _, text string, size int) (string, string, api.Errno) {
	if size == 0 {
		size = treeTag
	}
	seal := ccm.Seal
	if byCounter(e.Alg) {
		seal = gcm.Seal
	}
	out, no := seal(key, e.IV, e.Header, text, size)
	if no != api.OK {
		return "", "", no
	}
	return out[:len(text)], out[len(text):], api.OK
}

func (byText) seal(e api.Envelope, key, _, text string, _ int) (string, string, api.Errno) {
	return suite.Seal(e.Alg, key, e.IV, jwe.Beside(e), text)
}

func (byItem) seal(e api.Envelope, key, aad, text string, _ int) (string, string, api.Errno) {
	if e.Format == api.Encrypt0 {
		return suite.Seal(e.Alg, key, e.IV, cose.Structure(e, aad), text)
	}
	tag, no := suite.Mac(e.Alg, key, cose.Structure(e, aad))
	return text, tag, no
}

func (byTree) open(e api.Envelope, key, _ string) (string, api.Errno) {
	open := ccm.Open
	if byCounter(e.Alg) {
		open = gcm.Open
	}
	return open(key, e.IV, e.Header, e.Cipher+e.Tag, len(e.Tag))
}

func (byText) open(e api.Envelope, key, _ string) (string, api.Errno) {
	return suite.Open(e.Alg, key, e.IV, jwe.Beside(e), e.Cipher, e.Tag)
}

func (byItem) open(e api.Envelope, key, aad string) (string, api.Errno) {
	if e.Format == api.Encrypt0 {
		return suite.Open(e.Alg, key, e.IV, cose.Structure(e, aad), e.Cipher, e.Tag)
	}
	return e.Cipher, suite.Check(e.Alg, key, cose.Structure(e, aad), e.Tag)
}
