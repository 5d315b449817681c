package fields_test

import (
	"bytes"
	"slices"
	"testing"
	"unsafe"

	"baseboard/api"
	"baseboard/fields"
)

// R3
func TestNilIsEmpty(t *testing.T) {
	for _, b := range [][]byte{nil, {}} {
		if l, n, e := fields.DecodeList(b); l != nil || n != 0 || e != api.ErrTruncated {
			t.Errorf("no bytes are decoded as %#v, %d bytes, error %d", l, n, e)
		}
		failsWith(t, b, api.ErrTruncated)
	}
}

// R2: the text lies in bytes that are changed afterwards.
func TestEncodeAndBestKeepNoText(t *testing.T) {
	for _, f := range samples() {
		if f.Value == "" {
			continue
		}
		text := []byte(f.Value)
		inPlace := unsafe.String(&text[0], len(text))
		b, e := fields.Encode(api.Field{Kind: f.Kind, Value: inPlace})
		all, eAll := fields.EncodeList([]api.Field{{Kind: f.Kind, Value: inPlace}})
		best, eBest := fields.Best(inPlace)
		if string(text) != f.Value {
			t.Fatalf("%#v became %q", f, text)
		}
		clear(text)
		if want, wantError := fields.Encode(f); e != wantError || !bytes.Equal(b, want) {
			t.Errorf("the encoding of %#v shares memory with it", f)
		}
		if want, wantError := fields.EncodeList([]api.Field{f}); eAll != wantError || !bytes.Equal(all, want) {
			t.Errorf("the encoding of the list of %#v shares memory with it", f)
		}
		if want, wantError := fields.Best(f.Value); eBest != wantError || best != want {
			t.Errorf("the best field of %q shares memory with it", f.Value)
		}
	}
}

// R2
func TestDecodeKeepsNoBytes(t *testing.T) {
	for _, f := range samples() {
		b, _ := fields.EncodeList([]api.Field{f, f})
		array := append(slices.Clone(b), 0xAA, 0xAA, 0xAA, 0xAA)
		before := slices.Clone(array)
		got, _, _, e := fields.Decode(array[:len(b)])
		l, _, eList := fields.DecodeList(array[:len(b)])
		if !bytes.Equal(array, before) {
			t.Errorf("% X became % X", before, array)
		}
		clear(array)
		if e != api.OK || got != f {
			t.Errorf("what Decode read from % X became %#v, error %d", b, got, e)
		}
		if eList != api.OK || !slices.Equal(l, []api.Field{f, f}) {
			t.Errorf("what DecodeList read from % X became %#v, error %d", b, l, eList)
		}
	}
}

// R2
func TestRefusedBytesStay(t *testing.T) {
	for _, b := range [][]byte{{0x02, 0xFF}, {0x42, 0x12, 0x1F}, {0x82, 0xFF, 0xFF}, bytes.Repeat([]byte{0x00}, 30)} {
		before := slices.Clone(b)
		fields.Decode(b)
		if _, _, e := fields.DecodeList(b); e == api.OK || !bytes.Equal(b, before) {
			t.Errorf("% X became % X, error %d", before, b, e)
		}
	}
}

// R2
func TestEncodeListLeavesList(t *testing.T) {
	for _, n := range []int{0, 1, 15, 16, 17} {
		array, _ := list(20)
		before := slices.Clone(array)
		fields.EncodeList(array[:n])
		if !slices.Equal(array, before) {
			t.Errorf("a list of %d fields was changed", n)
		}
	}
}

// R2, R7
func TestResultsAreNewEachTime(t *testing.T) {
	for _, f := range samples() {
		b, _ := fields.Encode(f)
		again, _ := fields.Encode(f)
		clear(b[:cap(b)])
		if third, _ := fields.Encode(f); !bytes.Equal(again, third) {
			t.Errorf("two encodings of %#v share memory", f)
		}
	}
	l, _ := list(api.MaxFields)
	b, _ := fields.EncodeList(l)
	again, _ := fields.EncodeList(l)
	clear(b[:cap(b)])
	read, _, _ := fields.DecodeList(again)
	other, _, _ := fields.DecodeList(again)
	clear(read[:cap(read)])
	if !slices.Equal(other, l) {
		t.Error("two lists share memory")
	}
}
