package envelope

import (
	"pyxis/api"
	"pyxis/pbkdf"
	"pyxis/recip"
	"pyxis/wrap"
)

// opened is the message's key that a recipient has, by the ring's key.
func opened(f format, to api.Recipient, secret string) (string, api.Errno) {
	switch to.Way {
	case api.Wrapped:
		return wrap.Unwrap(secret, to.Key)
	case api.Password:
		return f.unlock(to, secret)
	}
	return secret, api.OK
}

// sealed is what a recipient has of the message's key.
func sealed(f format, to api.Recipient, secret, key, fill string) string {
	out := ""
	switch to.Way {
	case api.Wrapped:
		out, _ = wrap.Wrap(secret, key)
	case api.Password:
		out = f.lock(to, secret, key, fill)
	}
	return out
}

func (byTree) lock(to api.Recipient, password, key, fill string) string {
	by, _ := pbkdf.Key(to.Kind, password, to.Salt, to.Rounds, to.Size)
	out, _ := recip.Lock(by, to.IV, key, fill)
	return out
}

func (byTree) unlock(to api.Recipient, password string) (string, api.Errno) {
	by, _ := pbkdf.Key(to.Kind, password, to.Salt, to.Rounds, to.Size)
	return recip.Unlock(by, to.IV, to.Key)
}

func (byText) lock(to api.Recipient, password, key, _ string) string {
	out, _ := wrap.Wrap(derived(to, password), key)
	return out
}

func (byText) unlock(to api.Recipient, password string) (string, api.Errno) {
	return wrap.Unwrap(derived(to, password), to.Key)
}

// derived is what a password of layer 24 seals with.
func derived(to api.Recipient, password string) string {
	name, _ := recip.Name(to.Kind)
	out, _ := recip.Derive(name, password, to.Salt, to.Rounds)
	return out
}

// Items have no passwords.
func (byItem) lock(api.Recipient, string, string, string) string {
	return ""
}

func (byItem) unlock(api.Recipient, string) (string, api.Errno) {
	return "", api.ErrAuth
}

// recipient keeps of a plan's one what counts.
func (byTree) recipient(to api.Recipient) api.Recipient {
	if to.Way == api.Password {
		return api.Recipient{Way: to.Way, Size: to.Size, Kind: to.Kind, Salt: to.Salt, Rounds: to.Rounds, IV: to.IV}
	}
	return api.Recipient{Way: to.Way, Size: to.Size, Name: to.Name}
}

func (byText) recipient(to api.Recipient) api.Recipient {
	switch to.Way {
	case api.Wrapped:
		return api.Recipient{Way: to.Way, Size: to.Size, Name: to.Name}
	case api.Password:
		size := to.Kind / 16 // that of the algorithm with that kind
		return api.Recipient{Way: to.Way, Size: size, Kind: to.Kind, Name: to.Name, Salt: to.Salt, Rounds: to.Rounds}
	}
	return api.Recipient{Way: to.Way, Name: to.Name}
}

func (byItem) recipient(to api.Recipient) api.Recipient {
	return api.Recipient{Way: to.Way, Name: to.Name}
}
