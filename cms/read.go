package cms

import (
	"errors"

	"pyxis/api"
	"pyxis/der"
	"pyxis/octet"
)

// reader makes an envelope of a tree.
type reader struct {
	*cursor
	rounds   int // the most that may be
	envelope api.Envelope
	size     int // bytes of the tag
}

// Read makes an envelope of bytes.
func Read(s string, lim api.Limits) (api.Envelope, api.Errno) {
	nodes, _, e := der.Decode(s, lim)
	if e != api.OK {
		return api.Envelope{}, e
	}
	r := reader{cursor: newCursor(nodes), rounds: lim.Rounds, envelope: api.Envelope{Format: api.CMS}}
	r.whole()
	if e := r.told(); e != api.OK {
		return api.Envelope{}, e
	}
	return r.envelope, api.OK
}

// told is the fault that the walk came to.
func (r *reader) told() api.Errno {
	var f *fault
	if errors.As(r.err, &f) {
		return f.e
	}
	return api.OK
}

func (r *reader) whole() {
	r.within(0x30, func() {
		r.is(6, sealedType, api.ErrKind)
		r.within(0xa0, func() {
			r.within(0x30, r.sealed)
		})
	})
}

// sealed goes through what a message of that type has.
func (r *reader) sealed() {
	r.is(2, "\x00", api.ErrKind)
	r.ask(!r.stands(0xa0), api.ErrKind)
	r.ask(!r.stands(0x31) || r.nodes[r.at].Kids <= api.MaxTo, api.ErrLimit)
	r.within(0x31, func() {
		r.each(r.recipient)
	})
	r.content()
	if r.stands(0xa1) {
		r.attributes()
	}
	r.leaf(4, func(tag string) {
		r.ask(len(tag) == r.size, api.ErrForm)
		r.envelope.Tag = tag
	})
	r.ask(!r.stands(0xa2), api.ErrKind)
}

// recipient goes through one, of a kind that is told by its tag.
func (r *reader) recipient() {
	to := api.Recipient{}
	switch r.nodes[r.at].Tag {
	case 0xa2:
		r.within(0xa2, func() {
			r.wrapped(&to)
		})
	case 0xa3:
		r.within(0xa3, func() {
			r.password(&to)
		})
	case 0x30, 0xa1, 0xa4:
		r.fail(api.ErrKind)
	default:
		r.fail(api.ErrForm)
	}
	r.envelope.To = append(r.envelope.To, to)
}

func (r *reader) wrapped(to *api.Recipient) {
	to.Way = api.Wrapped
	r.is(2, "\x04", api.ErrKind)
	r.within(0x30, func() {
		r.leaf(4, func(name string) {
			r.ask(len(name) >= 1 && len(name) <= api.MaxName, api.ErrForm)
			to.Name = name
		})
		r.ask(!r.more(), api.ErrKind)
	})
	r.within(0x30, func() {
		to.Size = r.keySize(wrapping)
	})
	r.leaf(4, func(key string) {
		r.ask(len(key)%8 == 0 && len(key) >= 24 && len(key) <= api.MaxWrap+8, api.ErrForm)
		to.Key = key
	})
}

// keySize asks for a cipher's type, of a use, and tells the bytes of its keys.
func (r *reader) keySize(use byte) int {
	size := 0
	r.leaf(6, func(body string) {
		size = keySize(use, body)
		r.ask(size > 0, api.ErrKind)
	})
	return size
}

func (r *reader) password(to *api.Recipient) {
	to.Way = api.Password
	r.is(2, "\x00", api.ErrKind)
	r.within(0xa0, func() {
		r.is(6, derivedType, api.ErrKind)
		r.within(0x30, func() {
			r.derivation(to)
		})
	})
	r.within(0x30, func() {
		r.is(6, lockingType, api.ErrKind)
		r.within(0x30, func() {
			to.Size = r.keySize(chains)
			r.leaf(4, func(iv string) {
				r.ask(len(iv) == 16, api.ErrForm)
				to.IV = iv
			})
		})
	})
	r.leaf(4, func(key string) {
		r.ask(len(key)%16 == 0 && len(key) >= 32 && len(key) <= 272, api.ErrForm)
		to.Key = key
	})
}

// derivation goes through what a password's key is made with.
func (r *reader) derivation(to *api.Recipient) {
	r.leaf(4, func(salt string) {
		r.ask(len(salt) >= 8 && len(salt) <= 1000, api.ErrForm)
		to.Salt = salt
	})
	r.leaf(2, func(body string) {
		to.Rounds = r.roundsOf(body)
	})
	r.ask(r.err != nil || r.more() && !r.stands(2), api.ErrKind)
	r.within(0x30, func() {
		r.leaf(6, func(body string) {
			to.Kind = digestKind(body)
			r.ask(to.Kind > 0, api.ErrKind)
		})
		r.is(5, "", api.ErrForm)
	})
}

// roundsOf is a number above 0 that may be. Its body has as few bytes as it takes, so that one of more than eight is too great.
func (r *reader) roundsOf(body string) int {
	r.ask(body[0] < 128 && body != "\x00", api.ErrForm)
	n, e := octet.Get(body)
	r.ask(e == api.OK && n <= uint64(r.rounds), api.ErrLimit)
	return int(n)
}

func (r *reader) content() {
	mode := byte(gcm)
	r.within(0x30, func() {
		r.is(6, dataType, api.ErrKind)
		r.within(0x30, func() {
			mode = r.cipher()
			r.within(0x30, func() {
				r.parameters(mode)
			})
		})
		r.ask(r.err != nil || r.more(), api.ErrKind)
		r.leaf(0x80, func(text string) {
			r.ask(len(text) <= api.MaxText && !(mode == ccm && len(r.envelope.IV) == 13 && len(text) >= 65536), api.ErrLimit)
			r.envelope.Cipher = text
		})
	})
}

// cipher asks for the type of one, and tells its mode.
func (r *reader) cipher() byte {
	mode := byte(gcm)
	r.leaf(6, func(body string) {
		size := keySize(gcm, body)
		first := api.A128GCM
		if size == 0 {
			mode, first = ccm, api.A128CCM
			size = keySize(ccm, body)
		}
		r.ask(size > 0, api.ErrKind)
		r.envelope.Alg = first + (size-16)/8
	})
	return mode
}

// parameters goes through the iv, and the tag's length, if that is told.
func (r *reader) parameters(mode byte) {
	r.leaf(4, func(iv string) {
		least, most := 1, api.MaxIV
		if mode == ccm {
			least, most = 7, 13
		}
		r.ask(len(iv) >= least && len(iv) <= most, api.ErrForm)
		r.envelope.IV = iv
	})
	r.size = defaultTag
	if r.stands(2) {
		r.leaf(2, func(body string) {
			r.size = int(body[0])
			r.ask(len(body) == 1 && tellable(mode, r.size), api.ErrForm)
		})
	}
}

const defaultTag = 12 // bytes of a tag whose length isn't told

// tellable says whether a tag's length is told, of a mode.
func tellable(mode byte, size int) bool {
	if mode == gcm {
		return size >= 13 && size <= 16
	}
	return size >= 4 && size <= 16 && size%2 == 0 && size != defaultTag
}

// attributes keeps them as they are authenticated: as elements in order.
func (r *reader) attributes() {
	from := r.at
	r.within(0xa1, func() {
		r.each(func() {
			r.within(0x30, func() {
				r.leaf(6, func(string) {})
				r.within(0x31, func() {
					r.each(r.pass)
				})
			})
		})
	})
	if r.err != nil {
		return
	}
	nodes := append([]api.Node{}, r.nodes[from:r.at]...)
	nodes[0].Tag = 0x31
	header, e := der.Encode(nodes)
	r.ask(e == api.OK, api.ErrForm)
	r.ask(len(header) <= api.MaxText, api.ErrLimit)
	r.envelope.Header = header
}
