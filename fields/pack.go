package fields

import (
	"strings"

	"baseboard/api"
)

// pack returns the encoded data of a valid field.
func pack(f api.Field) []byte {
	switch f.Kind {
	case api.FieldBCD:
		return packBCD(f.Value)
	case api.FieldSix:
		return packSix(f.Value)
	}
	return []byte(f.Value)
}

// unpack returns the value that encoded data stand for; it is false if they are malformed.
func unpack(kind int, data []byte) (string, bool) {
	switch kind {
	case api.FieldBCD:
		return unpackBCD(data)
	case api.FieldSix:
		return unpackSix(data)
	}
	return string(data), true
}

func onlyBCD(s string) bool {
	for i := range len(s) {
		if strings.IndexByte(bcdCharacters, s[i]) < 0 {
			return false
		}
	}
	return true
}

func packBCD(s string) []byte {
	var b []byte
	for i := 0; i < len(s); i += 2 {
		high := strings.IndexByte(bcdCharacters, s[i])
		low := strings.IndexByte(bcdCharacters, s[i+1])
		b = append(b, byte(high<<4|low))
	}
	return b
}

func unpackBCD(data []byte) (string, bool) {
	var s []byte
	for _, x := range data {
		high, low := int(x>>4), int(x&0xF)
		if high >= len(bcdCharacters) || low >= len(bcdCharacters) {
			return "", false
		}
		s = append(s, bcdCharacters[high], bcdCharacters[low])
	}
	return string(s), true
}

func onlySix(s string) bool {
	for i := range len(s) {
		if s[i] < firstSix || s[i] > lastSix {
			return false
		}
	}
	return true
}

func packSix(s string) []byte {
	var b []byte
	var bits, count uint // bits that do not fill a byte yet, the first one lowest
	for i := range len(s) {
		bits |= uint(s[i]-firstSix) << count
		count += 6
		if count >= 8 {
			b = append(b, byte(bits))
			bits >>= 8
			count -= 8
		}
	}
	if count > 0 {
		b = append(b, byte(bits))
	}
	return b
}

func unpackSix(data []byte) (string, bool) {
	var s []byte
	var bits, count uint // bits that do not fill a character yet, the first one lowest
	for _, x := range data {
		bits |= uint(x) << count
		count += 8
		for count >= 6 {
			s = append(s, firstSix+byte(bits&0x3F))
			bits >>= 6
			count -= 6
		}
	}
	if bits != 0 {
		return "", false
	}
	return string(s), true
}
