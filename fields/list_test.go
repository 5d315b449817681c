package fields_test

import (
	"bytes"
	"fmt"
	"math/rand"
	"slices"
	"testing"

	"baseboard/api"
	"baseboard/fields"
)

// list returns n fields of all kinds and their encodings, without the end mark.
func list(n int) ([]api.Field, []byte) {
	var l []api.Field
	var b []byte
	for i := range n {
		x := known[i%len(known)]
		l = append(l, x.f)
		b = append(b, x.b...)
	}
	return l, b
}

// P2.4
func TestLists(t *testing.T) {
	for n := range api.MaxFields + 1 {
		l, b := list(n)
		b = append(b, 0xC1)
		if got, e := fields.EncodeList(l); e != api.OK || !bytes.Equal(got, b) {
			t.Errorf("%d fields are encoded as % X, error %d", n, got, e)
		}
		for _, behind := range [][]byte{nil, {0}, {0xC1}, {0xC1, 0xC1}, {0x02}, {0x41, 0xFF}, bytes.Repeat([]byte{0x00}, 40)} {
			if got, size, e := fields.DecodeList(append(slices.Clone(b), behind...)); !slices.Equal(got, l) || size != len(b) || e != api.OK {
				t.Errorf("%d fields and % X are decoded as %#v, %d bytes, error %d", n, behind, got, size, e)
			}
		}
	}
}

// P2.4
func TestKnownLists(t *testing.T) {
	for _, x := range []struct {
		l []api.Field
		b []byte
	}{
		{nil, []byte{0xC1}},
		{[]api.Field{}, []byte{0xC1}},
		{[]api.Field{{}}, []byte{0x00, 0xC1}},
		{[]api.Field{{Kind: 0, Value: "\xC1"}}, []byte{0x01, 0xC1, 0xC1}},
		{[]api.Field{{Kind: 3}, {Kind: 1, Value: "12.5"}, {Kind: 2, Value: "IPMI"}}, []byte{0xC0, 0x42, 0x12, 0xC5, 0x83, 0x29, 0xDC, 0xA6, 0xC1}},
		{[]api.Field{{Kind: 3, Value: "ab"}, {Kind: 3, Value: "ab"}}, []byte{0xC2, 0x61, 0x62, 0xC2, 0x61, 0x62, 0xC1}},
	} {
		if b, e := fields.EncodeList(x.l); e != api.OK || !bytes.Equal(b, x.b) {
			t.Errorf("%#v is encoded as % X, error %d", x.l, b, e)
		}
		if l, n, e := fields.DecodeList(x.b); !slices.Equal(l, x.l) || n != len(x.b) || e != api.OK {
			t.Errorf("% X is decoded as %#v, %d bytes, error %d", x.b, l, n, e)
		}
	}
}

// P2.4
func TestEncodeOfTooLongList(t *testing.T) {
	for _, n := range []int{17, 18, 100, 257} {
		l, _ := list(n)
		if b, e := fields.EncodeList(l); b != nil || e != api.ErrLimit {
			t.Errorf("%d fields are encoded as % X, error %d", n, b, e)
		}
		l[0] = api.Field{Kind: 4}
		if b, e := fields.EncodeList(l); b != nil || e != api.ErrLimit {
			t.Errorf("%d fields, the first one not valid, are encoded as % X, error %d", n, b, e)
		}
	}
}

// P2.4
func TestEncodeOfListWithInvalidField(t *testing.T) {
	for _, wrong := range []api.Field{{Kind: -1}, {Kind: 4}, {Kind: 1, Value: "1"}, {Kind: 2, Value: "ABC"}, {Kind: 3, Value: "a"}} {
		for n := 1; n <= api.MaxFields; n++ {
			for at := range n {
				l, _ := list(n)
				l[at] = wrong
				if b, e := fields.EncodeList(l); b != nil || e != api.ErrInvalid {
					t.Errorf("%d fields, %d not valid, are encoded as % X, error %d", n, at, b, e)
				}
			}
		}
	}
}

// P2.4
func TestDecodeOfMalformedList(t *testing.T) {
	for n := range 20 {
		_, b := list(n)
		for _, x := range []struct {
			behind []byte
			want   api.Errno
		}{
			{nil, api.ErrTruncated},
			{[]byte{0x02}, api.ErrTruncated},
			{[]byte{0x42, 0xFF}, api.ErrTruncated},
			{[]byte{0x41, 0xFF}, api.ErrForm},
			{[]byte{0x41, 0x1D, 0xC1}, api.ErrForm},
			{[]byte{0x81, 0x40, 0xC1}, api.ErrForm},
			{[]byte{0xC1}, api.OK},
		} {
			want := x.want
			if n > api.MaxFields {
				want = api.ErrLimit
			}
			l, size, e := fields.DecodeList(append(slices.Clone(b), x.behind...))
			if e != want || e != api.OK && (l != nil || size != 0) {
				t.Errorf("%d fields and % X are decoded as %#v, %d bytes, error %d", n, x.behind, l, size, e)
			}
		}
	}
}

// P2.4: an error of Decode comes before the limit in the field behind MaxFields fields, and the limit before what is behind it.
func TestDecodeOfFieldBehindLimit(t *testing.T) {
	_, full := list(api.MaxFields)
	for _, x := range []struct {
		behind []byte
		want   api.Errno
	}{
		{[]byte{0x00}, api.ErrLimit},
		{[]byte{0xC0, 0xC1}, api.ErrLimit},
		{[]byte{0x42, 0x12, 0xC5, 0xC1}, api.ErrLimit},
		{[]byte{0x00, 0x41, 0xFF}, api.ErrLimit},
		{[]byte{0x00, 0x02}, api.ErrLimit},
		{nil, api.ErrTruncated},
		{[]byte{0x01}, api.ErrTruncated},
		{[]byte{0x41, 0xD0, 0xC1}, api.ErrForm},
		{[]byte{0x81, 0x80, 0xC1}, api.ErrForm},
	} {
		b := append(slices.Clone(full), x.behind...)
		if l, n, e := fields.DecodeList(b); l != nil || n != 0 || e != x.want {
			t.Errorf("16 fields and % X are decoded as %#v, %d bytes, error %d", x.behind, l, n, e)
		}
	}
}

// P2.4
func TestDecodeListOfEncodeList(t *testing.T) {
	r := rand.New(rand.NewSource(3))
	all := samples()
	for range 500 {
		l := make([]api.Field, r.Intn(api.MaxFields+1))
		for i := range l {
			l[i] = all[r.Intn(len(all))]
		}
		b, e := fields.EncodeList(l)
		if e != api.OK {
			t.Fatalf("%#v: error %d", l, e)
		}
		if got, n, e := fields.DecodeList(b); !slices.Equal(got, l) || n != len(b) || e != api.OK {
			t.Fatalf("%#v is decoded as %#v, %d bytes, error %d", l, got, n, e)
		}
	}
}

func ExampleEncodeList() {
	name, _ := fields.Best("IPMI")
	size, _ := fields.Best("12.5")
	b, e := fields.EncodeList([]api.Field{name, size})
	fmt.Printf("% X %d\n", b, e)
	l, n, e := fields.DecodeList(b)
	fmt.Println(l, n, e)
	// Output:
	// 83 29 DC A6 42 12 C5 C1 0
	// [{2 IPMI} {1 12.5}] 8 0
}
