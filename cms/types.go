package cms

// The bodies of elements 06.
const (
	sealedType   = "\x2a\x86\x48\x86\xf7\x0d\x01\x09\x10\x01\x17"
	dataType     = "\x2a\x86\x48\x86\xf7\x0d\x01\x07\x01"
	derivedType  = "\x2a\x86\x48\x86\xf7\x0d\x01\x05\x0c"
	lockingType  = "\x2a\x86\x48\x86\xf7\x0d\x01\x09\x10\x03\x09"
	besideType   = "\x2a\x86\x48\x86\xf7\x0d\x01\x09\x04"
	digestFamily = "\x2a\x86\x48\x86\xf7\x0d\x02" // and a byte more
	cipherFamily = "\x60\x86\x48\x01\x65\x03\x04\x01"
)

// What a cipher is used for: its type's last byte with keys of 16 bytes; with those of 24 and 32 it is 20 and 40 more.
const (
	chains   = 2
	wrapping = 5
	gcm      = 6
	ccm      = 7
)

// cipherType is the type of a use with keys of so many bytes.
func cipherType(use byte, size int) string {
	switch size {
	case 24:
		use += 20
	case 32:
		use += 40
	}
	return cipherFamily + string([]byte{use})
}

// keySize is how many bytes the keys of a type have, if it is one of that use; else 0.
func keySize(use byte, body string) int {
	for _, size := range [3]int{16, 24, 32} {
		if body == cipherType(use, size) {
			return size
		}
	}
	return 0
}

// digestType is the type of a digest's kind.
func digestType(kind int) string {
	switch kind {
	case 256:
		return digestFamily + "\x09"
	case 384:
		return digestFamily + "\x0a"
	}
	return digestFamily + "\x0b"
}

// digestKind is the kind of a type; 0, if it is none.
func digestKind(body string) int {
	for _, kind := range [3]int{256, 384, 512} {
		if body == digestType(kind) {
			return kind
		}
	}
	return 0
}
