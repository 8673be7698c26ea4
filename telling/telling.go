// Package telling asks, of what was told of an envelope, whether it is read alike. Layers 23 to 25 tell by it.
package telling

import (
	"slices"

	"pyxis/api"
)

// Greatest are the limits within which all is read that can be told.
func Greatest() api.Limits {
	return api.Limits{Depth: api.MaxDepth, Items: api.MaxItems, Bytes: api.MaxBytes, Rounds: api.MaxRounds}
}

// Checked is what was told, if it is read to the envelope.
func Checked(s string, e api.Envelope, read func(string, api.Limits) (api.Envelope, api.Errno)) (string, api.Errno) {
	back, no := read(s, Greatest())
	if no != api.OK || !same(back, e) {
		return "", api.ErrArg
	}
	return s, api.OK
}

// same says whether two envelopes are alike in all fields.
func same(a, b api.Envelope) bool {
	return a.Format == b.Format && a.Alg == b.Alg && slices.Equal(a.To, b.To) && a.Header == b.Header && a.Loose == b.Loose &&
		a.Aad == b.Aad && a.IV == b.IV && a.Cipher == b.Cipher && a.Tag == b.Tag
}
