package convert_test

import (
	"bytes"
	"math/rand"
	"slices"
	"testing"

	"baseboard/api"
	"baseboard/convert"
)

// known are conversions and their encodings.
var known = []struct {
	c api.Conversion
	b []byte
}{
	{linear(1, 5, -10, 1, -2), []byte{0x01, 0x05, 0x00, 0xF6, 0xFF, 0x01, 0xFE}},
	{linear(1, 0, 0, 0, 0), []byte{0x01, 0, 0, 0, 0, 0, 0}},
	{signed(linear(1, 0, 0, 0, 0)), []byte{0x81, 0, 0, 0, 0, 0, 0}},
	{linear(2, 511, -512, 3, -3), []byte{0x02, 0xFF, 0x01, 0x00, 0xFE, 0x03, 0xFD}},
	{signed(linear(2, -512, 511, -3, 3)), []byte{0x82, 0x00, 0xFE, 0xFF, 0x01, 0xFD, 0x03}},
	{linear(3, -1, 256, -1, 0), []byte{0x03, 0xFF, 0xFF, 0x00, 0x01, 0xFF, 0x00}},
	{signed(linear(3, 255, -256, 2, -1)), []byte{0x83, 0xFF, 0x00, 0x00, 0xFF, 0x02, 0xFF}},
	{linear(4, 127, 128, 0, 1), []byte{0x04, 0x7F, 0x00, 0x80, 0x00, 0x00, 0x01}},
	{signed(linear(4, -128, -129, 0, 1)), []byte{0x84, 0x80, 0xFF, 0x7F, 0xFF, 0x00, 0x01}},
	{
		table(api.Point{Raw: 0, Value: 0}, api.Point{Raw: 10, Value: one}),
		[]byte{0x05, 2, 0, 0, 0, 0, 0, 0, 0, 10, 0x40, 0x42, 0x0F, 0, 0, 0},
	},
	{
		signed(table(api.Point{Raw: 0x80, Value: -1}, api.Point{Raw: 0xFF, Value: -one}, api.Point{Raw: 0x7F, Value: 0x0102030405})),
		[]byte{0x85, 3, 0x80, 0xFF, 0xFF, 0xFF, 0xFF, 0xFF, 0xFF, 0xFF, 0xC0, 0xBD, 0xF0, 0xFF, 0xFF, 0xFF, 0x7F, 0x05, 0x04, 0x03, 0x02, 0x01, 0x00},
	},
	{
		table(api.Point{Raw: 1, Value: -limit}, api.Point{Raw: 0xFE, Value: limit}),
		[]byte{0x05, 2, 0x01, 0x00, 0xF0, 0x5A, 0x2B, 0x17, 0xFF, 0xFE, 0x00, 0x10, 0xA5, 0xD4, 0xE8, 0x00},
	},
}

func checkDecode(t *testing.T, b []byte, want api.Conversion, wantSize int, wantError api.Errno) {
	t.Helper()
	if got, n, e := convert.Decode(b); !equal(got, want) || n != wantSize || e != wantError {
		t.Errorf("% X is decoded as %v, %d bytes, error %d, not %v, %d bytes, error %d", b, got, n, e, want, wantSize, wantError)
	}
}

func checkRefused(t *testing.T, b []byte, want api.Errno) {
	t.Helper()
	got, n, e := convert.Decode(b)
	if !equal(got, api.Conversion{}) || got.Points != nil || n != 0 || e != want {
		t.Errorf("% X is decoded as %v, %d bytes, error %d, not error %d", b, got, n, e, want)
	}
}

// encoding returns the bytes that P4.6 describes, of numbers that are made positive first.
func encoding(c api.Conversion) []byte {
	digits := func(v int64, size int) []byte {
		if v < 0 {
			v += int64(1) << (8 * size)
		}
		var b []byte
		for range size {
			b = append(b, byte(v%256))
			v /= 256
		}
		return b
	}
	b := []byte{byte(c.Form)}
	if c.Signed {
		b[0] += 128
	}
	if c.Form != api.FormTable {
		return slices.Concat(b, digits(int64(c.M), 2), digits(int64(c.B), 2), digits(int64(c.K1), 1), digits(int64(c.K2), 1))
	}
	b = append(b, byte(len(c.Points)))
	for _, p := range c.Points {
		b = slices.Concat(b, []byte{p.Raw}, digits(p.Value, 6))
	}
	return b
}

// P4.6 and P4.7
func TestKnownEncodings(t *testing.T) {
	for _, x := range known {
		if b, e := convert.Encode(x.c); !bytes.Equal(b, x.b) || e != api.OK {
			t.Errorf("%v is encoded as % X, error %d", x.c, b, e)
		}
		checkDecode(t, x.b, x.c, len(x.b), api.OK)
	}
}

// P4.6, P4.7 and Consequences
func TestDecodeOfEncode(t *testing.T) {
	for _, c := range append(edges(), few()...) {
		b, e := convert.Encode(c)
		if !bytes.Equal(b, encoding(c)) || e != api.OK {
			t.Errorf("%v is encoded as % X, error %d", c, b, e)
		}
		checkDecode(t, b, c, len(b), api.OK)
	}
	for v := -512; v <= 511; v++ {
		for _, c := range []api.Conversion{linear(1, v, 0, 0, 0), linear(4, 0, v, 0, 0)} {
			b, e := convert.Encode(c)
			if !bytes.Equal(b, encoding(c)) || e != api.OK {
				t.Errorf("%v is encoded as % X, error %d", c, b, e)
			}
			checkDecode(t, b, c, len(b), api.OK)
		}
	}
}

// P4.6
func TestEncodeOfInvalidConversions(t *testing.T) {
	for _, c := range wrong {
		if b, e := convert.Encode(c); b != nil || e != api.ErrInvalid {
			t.Errorf("%v is encoded as % X, error %d", c, b, e)
		}
	}
}

// P4.7
func TestDecodeDoesNotReadBehindTheEnd(t *testing.T) {
	for _, x := range known {
		for _, behind := range [][]byte{{0}, {0xFF}, {1, 2, 3}, x.b, bytes.Repeat([]byte{0xFF}, 300)} {
			checkDecode(t, slices.Concat(x.b, behind), x.c, len(x.b), api.OK)
		}
	}
}

// P4.7
func TestDecodeOfBytesThatAreCutOff(t *testing.T) {
	all := few()
	for _, x := range known {
		all = append(all, x.c)
	}
	for _, c := range all {
		b := encoding(c)
		for n := range b {
			checkRefused(t, b[:n:n], api.ErrTruncated)
			// What lies in the memory behind the slice does not belong to it.
			checkRefused(t, b[:n], api.ErrTruncated)
		}
	}
	checkRefused(t, nil, api.ErrTruncated)
	checkRefused(t, []byte{}, api.ErrTruncated)
}

// P4.7
func TestDecodeOfEachFirstByte(t *testing.T) {
	for first := range 256 {
		form := first % 128
		b := []byte{byte(first), 2, 0, 0, 0, 0, 0, 0, 0, 1, 0, 0, 0, 0, 0, 0}
		c := api.Conversion{Form: form, Signed: first >= 128}
		switch {
		case form >= 1 && form <= 4:
			c.M = 2
			checkDecode(t, b, c, 7, api.OK)
			checkRefused(t, b[:1], api.ErrTruncated)
		case form == 5:
			c.Points = []api.Point{{Raw: 0}, {Raw: 1}}
			checkDecode(t, b, c, 16, api.OK)
			checkRefused(t, b[:1], api.ErrTruncated)
		default:
			checkRefused(t, b, api.ErrForm)
			checkRefused(t, b[:1], api.ErrForm)
		}
	}
}

// P4.7
func TestDecodeOfEachNumberOfPoints(t *testing.T) {
	for _, first := range []byte{0x05, 0x85} {
		checkRefused(t, []byte{first}, api.ErrTruncated)
		for n := range 256 {
			c := numbered(2)
			for i := 2; i < n; i++ {
				c.Points = append(c.Points, api.Point{Raw: uint8(20 + i)})
			}
			b := append([]byte{first, byte(n)}, encoding(c)[2:]...)
			c.Signed = first == 0x85
			if n >= 2 && n <= 12 {
				checkDecode(t, b, c, 2+7*n, api.OK)
				checkRefused(t, b[:len(b)-1], api.ErrTruncated)
				checkRefused(t, b[:2], api.ErrTruncated)
			} else {
				checkRefused(t, b, api.ErrForm)
				checkRefused(t, b[:2], api.ErrForm)
			}
		}
	}
}

// P4.7
func TestDecodeOfBytesOfInvalidConversions(t *testing.T) {
	for _, b := range [][]byte{
		{0x01, 0x00, 0x02, 0, 0, 0, 0},          // M = 512
		{0x02, 0xFF, 0xFD, 0, 0, 0, 0},          // M = -513
		{0x83, 0x00, 0x80, 0, 0, 0, 0},          // M = -32768
		{0x04, 0xFF, 0x7F, 0, 0, 0, 0},          // M = 32767
		{0x01, 0, 0, 0x00, 0x02, 0, 0},          // B = 512
		{0x82, 0, 0, 0xFF, 0xFD, 0, 0},          // B = -513
		{0x03, 0, 0, 0x00, 0x80, 0, 0},          // B = -32768
		{0x01, 0, 0, 0, 0, 0x04, 0},             // K1 = 4
		{0x01, 0, 0, 0, 0, 0xFC, 0},             // K1 = -4
		{0x01, 0, 0, 0, 0, 0x80, 0},             // K1 = -128
		{0x84, 0, 0, 0, 0, 0, 0x04},             // K2 = 4
		{0x04, 0, 0, 0, 0, 0, 0xFC},             // K2 = -4
		{0x04, 0, 0, 0, 0, 0, 0x7F},             // K2 = 127
		{0x01, 0xFF, 0xFF, 0xFF, 0x7F, 4, 0x80}, // most of them
	} {
		checkRefused(t, b, api.ErrInvalid)
		checkRefused(t, b[:6], api.ErrTruncated)
		checkRefused(t, append(b, 1, 2, 3), api.ErrInvalid)
	}
	for _, c := range []api.Conversion{
		table(api.Point{Raw: 1}, api.Point{Raw: 1}),
		table(api.Point{Raw: 2}, api.Point{Raw: 1}),
		table(api.Point{Raw: 0x80}, api.Point{Raw: 0x7F}),
		signed(table(api.Point{Raw: 0x7F}, api.Point{Raw: 0x80})),
		signed(table(api.Point{Raw: 0}, api.Point{Raw: 0xFF})),
		table(api.Point{Raw: 1, Value: limit + 1}, api.Point{Raw: 2}),
		table(api.Point{Raw: 1}, api.Point{Raw: 2, Value: -limit - 1}),
		table(api.Point{Raw: 1}, api.Point{Raw: 2, Value: 1<<47 - 1}),
		table(api.Point{Raw: 1}, api.Point{Raw: 2, Value: -1 << 47}),
	} {
		b := encoding(c)
		checkRefused(t, b, api.ErrInvalid)
		checkRefused(t, b[:len(b)-1], api.ErrTruncated)
		checkRefused(t, append(b, 1, 2, 3), api.ErrInvalid)
	}
}

// P4.7: with each byte of an encoding changed in each way, Decode follows what the bytes say.
func TestDecodeWithEachByteAtEachPlace(t *testing.T) {
	for _, x := range known {
		for i := range x.b {
			for v := range 256 {
				b := slices.Clone(x.b)
				b[i] = byte(v)
				checkAny(t, b)
			}
		}
	}
}

// checkAny checks all that the promises say of bytes of which nothing is known.
func checkAny(t *testing.T, b []byte) {
	t.Helper()
	c, n, e := convert.Decode(b)
	if e != api.OK {
		checkRefused(t, b, e)
		if e != api.ErrTruncated && e != api.ErrForm && e != api.ErrInvalid {
			t.Errorf("% X: error %d", b, e)
		}
		return
	}
	if !convert.Valid(c) || n > len(b) || !bytes.Equal(encoding(c), b[:n]) {
		t.Errorf("% X is decoded as %v, %d bytes", b, c, n)
	}
}

// drawBytes returns bytes of any kind, or an encoding in which a byte may be changed, and more bytes behind it.
func drawBytes(r *rand.Rand) []byte {
	b := make([]byte, r.Intn(24))
	r.Read(b)
	if r.Intn(2) == 0 {
		return b
	}
	c := encoding(draw(r))
	if r.Intn(2) == 0 {
		c[r.Intn(len(c))] = byte(r.Intn(256))
	}
	return append(c[:len(c)-r.Intn(2)*r.Intn(len(c))], b...)
}

// P4.7
func TestDecodeOfDrawnBytes(t *testing.T) {
	r := rand.New(rand.NewSource(47))
	counts := map[api.Errno]int{}
	for range 50000 {
		b := drawBytes(r)
		checkAny(t, b)
		_, _, e := convert.Decode(b)
		counts[e]++
	}
	for _, e := range []api.Errno{api.OK, api.ErrTruncated, api.ErrForm, api.ErrInvalid} {
		if counts[e] < 1000 {
			t.Errorf("too few bytes of a kind: %v", counts)
		}
	}
}

// R1
func FuzzDecode(f *testing.F) {
	for _, x := range known {
		f.Add(x.b)
	}
	f.Fuzz(func(t *testing.T, b []byte) {
		checkAny(t, b)
		c, _, e := convert.Decode(b)
		if e != api.OK {
			return
		}
		checkValue(t, c, b[len(b)-1])
		checkDirection(t, c, wantDirection(readings(c)), api.OK)
	})
}
