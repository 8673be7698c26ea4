package envelope

import (
	"unicode/utf8"

	"pyxis/api"
	"pyxis/der"
	"pyxis/ring"
)

// sealing is a plan that is asked, and done, step by step.
type sealing struct {
	api.Plan
	f         format
	ring      *ring.Ring
	aad, text string
	lim       api.Limits
	secrets   []string // the ring's key for each recipient
	direct    bool     // the message's key is the ring's
	envelope  api.Envelope
}

// Seal tells the message that a plan makes of a text.
func Seal(p api.Plan, r *ring.Ring, aad, text string, lim api.Limits) (string, api.Errno) {
	if !der.May(lim) {
		return "", api.ErrArg
	}
	s := &sealing{Plan: p, f: ofNumber(p.Format), ring: r, aad: aad, text: text, lim: lim}
	for _, ask := range [7]func() api.Errno{s.kind, s.recipients, s.keys, s.lengths, s.passwords, s.headers, s.content} {
		if e := ask(); e != api.OK {
			return "", e
		}
	}
	told, e := s.f.tell(s.envelope)
	if e != api.OK {
		return "", api.ErrLimit
	}
	if _, e := Inspect(told, lim); e != api.OK {
		return "", e
	}
	return told, api.OK
}

// kind asks for the format, the cipher, and whether the texts aren't too long for it.
func (s *sealing) kind() api.Errno {
	if s.f == nil || s.f.keySize(s.Format, s.Alg) == 0 {
		return api.ErrKind
	}
	if len(s.text) > api.MaxText || len(s.aad) > api.MaxText || len(s.text) >= 65536 && s.f.narrow(s.Alg, s.IV) {
		return api.ErrLimit
	}
	return api.OK
}

func (s *sealing) recipients() api.Errno {
	if !s.f.recipientsFit(s.Plan) || s.aad != "" && s.Format == api.Compact {
		return api.ErrArg
	}
	s.direct = s.To[0].Way == api.Direct
	return api.OK
}

// keys asks the ring, once for each recipient.
func (s *sealing) keys() api.Errno {
	for _, to := range s.To {
		secret, ok := fitting(s.ring, s.Format, to, s.f.keySize(s.Format, s.Alg))
		if !ok {
			return api.ErrNone
		}
		if to.Way == api.Wrapped && !keySize(to.Size) {
			return api.ErrKey
		}
		s.secrets = append(s.secrets, secret)
	}
	return api.OK
}

// keySize says whether the block cipher has keys of so many bytes.
func keySize(n int) bool {
	return n == 16 || n == 24 || n == 32
}

// lengths asks for those of what is drawn, and of the tag.
func (s *sealing) lengths() api.Errno {
	size := s.f.keySize(s.Format, s.Alg)
	if s.direct {
		size = 0
	}
	switch {
	case len(s.Key) != size:
		return api.ErrKey
	case !s.f.ivFits(s.Alg, s.IV):
		return api.ErrIV
	case !s.f.tagFits(s.Alg, s.Tag):
		return api.ErrTag
	}
	return api.OK
}

func (s *sealing) passwords() api.Errno {
	for _, to := range s.To {
		if to.Way != api.Password {
			continue
		}
		if e := s.password(to); e != api.OK {
			return e
		}
	}
	return api.OK
}

func (s *sealing) password(to api.Recipient) api.Errno {
	switch {
	case to.Kind != 256 && to.Kind != 384 && to.Kind != 512:
		return api.ErrKind
	case len(to.Salt) < 8 || len(to.Salt) > 1000:
		return api.ErrIV
	case to.Rounds < 1:
		return api.ErrArg
	case to.Rounds > s.lim.Rounds:
		return api.ErrRounds
	}
	return s.f.passwordFits(to, s.Key, s.Fill)
}

// headers makes the envelope, but for what is sealed.
func (s *sealing) headers() api.Errno {
	s.envelope = api.Envelope{Format: s.Format, Alg: s.Alg, IV: s.IV}
	texts := s.Format >= api.Compact && s.Format <= api.General
	for _, to := range s.To {
		if texts && !utf8.ValidString(to.Name) {
			return api.ErrArg
		}
	}
	for i, to := range s.To {
		told := s.f.recipient(to)
		told.Key = sealed(s.f, told, s.secrets[i], s.Key, s.Fill)
		s.envelope.To = append(s.envelope.To, told)
	}
	s.f.begin(&s.envelope, s.Plan, s.aad)
	return api.OK
}

// content seals the text.
func (s *sealing) content() api.Errno {
	e := &s.envelope
	e.Cipher = s.text // of Mac0 that is authenticated, too
	if s.f.long(*e, s.aad) {
		return api.ErrLimit
	}
	key := s.Key
	if s.direct {
		key = s.secrets[0]
	}
	no := api.OK
	e.Cipher, e.Tag, no = s.f.seal(*e, key, s.aad, s.text, s.Tag)
	if no != api.OK {
		return api.ErrLimit // what is beside it, as a text of layer 24, is too long
	}
	return api.OK
}
