package script

import (
	"slices"
	"strconv"
	"strings"

	"pyxis/api"
	"pyxis/der"
	"pyxis/envelope"
	"pyxis/ring"
)

// keep takes other keys, if they may be.
func (s *Session) keep(entries []api.Entry) (string, api.Errno) {
	r, e := ring.New(entries)
	if e != api.OK {
		return "", e
	}
	s.entries, s.ring = entries, r
	return done, api.OK
}

func (s *Session) key(l line) (string, api.Errno) {
	return s.keep(append(slices.Clone(s.entries), api.Entry{Name: l.texts[0], Key: l.texts[1]}))
}

func (s *Session) drop(l line) (string, api.Errno) {
	if !s.ring.Has(l.texts[0]) {
		return "", api.ErrNone
	}
	return s.keep(slices.DeleteFunc(slices.Clone(s.entries), func(entry api.Entry) bool {
		return entry.Name == l.texts[0]
	}))
}

func (s *Session) limit(l line) (string, api.Errno) {
	lim := api.Limits{Depth: l.numbers[0], Items: l.numbers[1], Bytes: l.numbers[2], Rounds: l.numbers[3]}
	if !der.May(lim) {
		return "", api.ErrArg
	}
	s.limits = lim
	return done, api.OK
}

func (s *Session) lay(l line) (string, api.Errno) {
	s.beside = l.texts[0]
	return done, api.OK
}

func (s *Session) begin(l line) (string, api.Errno) {
	s.plan = api.Plan{Format: l.numbers[0], Alg: l.numbers[1], Tag: l.numbers[2]}
	return done, api.OK
}

func (s *Session) to(l line) (string, api.Errno) {
	if len(s.plan.To) >= api.MaxTo {
		return "", api.ErrLimit
	}
	s.plan.To = append(s.plan.To, api.Recipient{
		Way: l.numbers[0], Size: l.numbers[1], Kind: l.numbers[2], Name: l.texts[0], Salt: l.texts[1], Rounds: l.numbers[3], IV: l.texts[2],
	})
	return done, api.OK
}

func (s *Session) draw(l line) (string, api.Errno) {
	s.plan.Key, s.plan.IV, s.plan.Fill = l.texts[0], l.texts[1], l.texts[2]
	return done, api.OK
}

func (s *Session) seal(l line) (string, api.Errno) {
	message, e := envelope.Seal(s.plan, s.ring, s.beside, l.texts[0], s.limits)
	if e != api.OK {
		return "", e
	}
	s.message = message
	return hex(message), api.OK
}

func (s *Session) open(l line) (string, api.Errno) {
	text, e := envelope.Open(l.texts[0], s.ring, s.beside, s.limits)
	return hex(text), e
}

func (s *Session) look(l line) (string, api.Errno) {
	e, no := envelope.Inspect(l.texts[0], s.limits)
	var words []string
	for _, n := range [9]int{e.Format, e.Alg, len(e.To), len(e.Header), len(e.Loose), len(e.Aad), len(e.IV), len(e.Cipher), len(e.Tag)} {
		words = append(words, strconv.Itoa(n))
	}
	for _, to := range e.To {
		for _, n := range [4]int{to.Way, to.Size, to.Kind, to.Rounds} {
			words = append(words, strconv.Itoa(n))
		}
		words = append(words, hex(to.Name))
	}
	return strings.Join(words, " "), no
}

func (s *Session) again(l line) (string, api.Errno) {
	told, e := envelope.Reserialize(l.texts[0], s.limits)
	return hex(told), e
}

func (s *Session) uses(l line) (string, api.Errno) {
	return strconv.Itoa(s.ring.Uses(l.texts[0])), api.OK
}

func (s *Session) names(line) (string, api.Errno) {
	var words []string
	for _, name := range s.ring.Names() {
		words = append(words, hex(name))
	}
	if len(words) == 0 {
		return hex(""), api.OK
	}
	return strings.Join(words, " "), api.OK
}
