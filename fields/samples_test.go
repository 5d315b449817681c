package fields_test

import (
	"bytes"
	"fmt"
	"math/rand"
	"strings"

	"baseboard/api"
	"baseboard/fields"
)

const bcdCharacters = "0123456789 -."

// allBytes is every byte once, in five parts that fit into a field.
func allBytes() []string {
	var s []byte
	for x := range 256 {
		s = append(s, byte(x))
	}
	return []string{string(s[:60]), string(s[60:120]), string(s[120:180]), string(s[180:240]), string(s[240:])}
}

// valid follows the chapter's section Types and knows nothing of how Valid works.
func valid(f api.Field) bool {
	n := len(f.Value)
	switch f.Kind {
	case 0:
		return n <= 63
	case 1:
		return n%2 == 0 && n <= 126 && strings.Trim(f.Value, bcdCharacters) == ""
	case 2:
		sixes := strings.Map(func(r rune) rune {
			if r >= 0x20 && r <= 0x5F {
				return -1
			}
			return r
		}, f.Value)
		return n%4 != 3 && n <= 84 && sixes == ""
	case 3:
		return n == 0 || n >= 2 && n <= 63
	}
	return false
}

// encodedSix writes the bits of each character in order, the least significant one first, and cuts them into bytes.
func encodedSix(s string) []byte {
	var bits []byte
	for _, x := range []byte(s) {
		for i := range 6 {
			bits = append(bits, (x-0x20)>>i&1)
		}
	}
	b := make([]byte, (len(bits)+7)/8)
	for i, bit := range bits {
		b[i/8] |= bit << (i % 8)
	}
	return append([]byte{byte(0x80 + len(b))}, b...)
}

// samples returns fields of all kinds, the same ones in every run: each length at which a field is valid, and each byte.
func samples() []api.Field {
	r := rand.New(rand.NewSource(1))
	var l []api.Field
	for n := range 130 {
		var values [4][]byte
		for range n {
			values[0] = append(values[0], byte(r.Intn(256)))
			values[1] = append(values[1], bcdCharacters[r.Intn(13)])
			values[2] = append(values[2], byte(0x20+r.Intn(64)))
			values[3] = append(values[3], byte(r.Intn(256)))
		}
		for kind, value := range values {
			if f := (api.Field{Kind: kind, Value: string(value)}); valid(f) {
				l = append(l, f)
			}
		}
	}
	for _, s := range allBytes() {
		l = append(l, api.Field{Kind: 0, Value: s}, api.Field{Kind: 3, Value: s})
	}
	return l
}

// known are encodings that were written down by hand.
var known = []struct {
	f api.Field
	b []byte
}{
	{api.Field{Kind: 0}, []byte{0x00}},
	{api.Field{Kind: 0, Value: "\x00"}, []byte{0x01, 0x00}},
	{api.Field{Kind: 0, Value: "\xC1\xFF\x00"}, []byte{0x03, 0xC1, 0xFF, 0x00}},
	{api.Field{Kind: 0, Value: "a"}, []byte{0x01, 0x61}},
	{api.Field{Kind: 1}, []byte{0x40}},
	{api.Field{Kind: 1, Value: "01"}, []byte{0x41, 0x01}},
	{api.Field{Kind: 1, Value: "10"}, []byte{0x41, 0x10}},
	{api.Field{Kind: 1, Value: "23456789"}, []byte{0x44, 0x23, 0x45, 0x67, 0x89}},
	{api.Field{Kind: 1, Value: " -"}, []byte{0x41, 0xAB}},
	{api.Field{Kind: 1, Value: ".9"}, []byte{0x41, 0xC9}},
	{api.Field{Kind: 1, Value: "12.5"}, []byte{0x42, 0x12, 0xC5}},
	{api.Field{Kind: 2}, []byte{0x80}},
	{api.Field{Kind: 2, Value: " "}, []byte{0x81, 0x00}},
	{api.Field{Kind: 2, Value: "_"}, []byte{0x81, 0x3F}},
	{api.Field{Kind: 2, Value: "A"}, []byte{0x81, 0x21}},
	{api.Field{Kind: 2, Value: " _"}, []byte{0x82, 0xC0, 0x0F}},
	{api.Field{Kind: 2, Value: "    "}, []byte{0x83, 0, 0, 0}},
	{api.Field{Kind: 2, Value: "IPMI"}, []byte{0x83, 0x29, 0xDC, 0xA6}},
	{api.Field{Kind: 2, Value: "IPMIA"}, []byte{0x84, 0x29, 0xDC, 0xA6, 0x21}},
	{api.Field{Kind: 3}, []byte{0xC0}},
	{api.Field{Kind: 3, Value: "ab"}, []byte{0xC2, 0x61, 0x62}},
	{api.Field{Kind: 3, Value: "\x00\xC1\xFF"}, []byte{0xC3, 0x00, 0xC1, 0xFF}},
}

// wrongDecoding says what is wrong with what Decode and DecodeList make of b.
func wrongDecoding(b []byte) string {
	f, n, end, e := fields.Decode(b)
	switch {
	case e != api.OK:
		if f != (api.Field{}) || n != 0 || end || e != api.ErrTruncated && e != api.ErrForm {
			return fmt.Sprint("the error ", e, " of Decode comes with other results")
		}
	case end:
		if f != (api.Field{}) || n != 1 || b[0] != 0xC1 {
			return "the end is not the end mark"
		}
	case !valid(f):
		return "what Decode returned is not valid"
	default:
		if again, e := fields.Encode(f); e != api.OK || !bytes.Equal(again, b[:n]) {
			return fmt.Sprintf("what Decode returned is encoded as % X, error %d", again, e)
		}
	}
	l, n, e := fields.DecodeList(b)
	if e != api.OK {
		if l != nil || n != 0 {
			return fmt.Sprint("the error ", e, " of DecodeList comes with other results")
		}
		return ""
	}
	if again, e := fields.EncodeList(l); e != api.OK || !bytes.Equal(again, b[:n]) {
		return fmt.Sprintf("what DecodeList returned is encoded as % X, error %d", again, e)
	}
	return ""
}
