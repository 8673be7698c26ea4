package jwe

import (
	"pyxis/api"
	"pyxis/recip"
)

// cipherName tells the name of a number; "", if it has none.
func cipherName(alg int) string {
	switch alg {
	case api.A128GCM:
		return "A128GCM"
	case api.A192GCM:
		return "A192GCM"
	case api.A256GCM:
		return "A256GCM"
	case api.A128CBC:
		return "A128CBC-HS256"
	case api.A192CBC:
		return "A192CBC-HS384"
	case api.A256CBC:
		return "A256CBC-HS512"
	}
	return ""
}

// cipherOf is the number of a name; 0, if it is none.
func cipherOf(name string) int {
	for alg := api.A128GCM; alg <= api.A256CBC; alg++ {
		if cipherName(alg) == name {
			return alg
		}
	}
	return 0
}

// wayName tells the name of a recipient's way, with its size or kind; "", if it has none.
func wayName(to api.Recipient) string {
	switch to.Way {
	case api.Direct:
		return "dir"
	case api.Wrapped:
		switch to.Size {
		case 16:
			return "A128KW"
		case 24:
			return "A192KW"
		case 32:
			return "A256KW"
		}
	case api.Password:
		name, _ := recip.Name(to.Kind)
		return name
	}
	return ""
}

// wayOf is what a name says of a recipient; of way 0, if it is none.
func wayOf(name string) api.Recipient {
	for _, to := range [7]api.Recipient{
		{Way: api.Direct}, {Way: api.Wrapped, Size: 16}, {Way: api.Wrapped, Size: 24}, {Way: api.Wrapped, Size: 32},
		{Way: api.Password, Size: 16, Kind: 256}, {Way: api.Password, Size: 24, Kind: 384}, {Way: api.Password, Size: 32, Kind: 512},
	} {
		if wayName(to) == name {
			return to
		}
	}
	return api.Recipient{}
}
