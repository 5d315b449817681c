package fields_test

import (
	"bytes"
	"math"
	"math/rand"
	"strings"
	"testing"

	"baseboard/api"
	"baseboard/fields"
)

// P2.1
func TestValidAtEachLength(t *testing.T) {
	for _, x := range []struct {
		kind   int
		filler string
		valid  func(n int) bool
	}{
		{0, "\xFF", func(n int) bool { return n <= 63 }},
		{1, "7", func(n int) bool { return n <= 126 && n%2 == 0 }},
		{2, "A", func(n int) bool { return n <= 84 && n%4 != 3 }},
		{3, "x", func(n int) bool { return n <= 63 && n != 1 }},
	} {
		for _, n := range append(upTo(300), 1000, 65536, 65538, 1<<20) {
			f := api.Field{Kind: x.kind, Value: strings.Repeat(x.filler, n)}
			if got := fields.Valid(f); got != x.valid(n) {
				t.Errorf("kind %d, %d bytes: %t", x.kind, n, got)
			}
		}
	}
}

func upTo(n int) []int {
	var l []int
	for i := range n {
		l = append(l, i)
	}
	return l
}

// P2.1
func TestValidOfEachByte(t *testing.T) {
	for x := range 256 {
		c := string([]byte{byte(x)})
		bcd := strings.Contains(bcdCharacters, c)
		six := x >= 0x20 && x <= 0x5F
		for _, y := range []struct {
			f    api.Field
			want bool
		}{
			{api.Field{Kind: 0, Value: c}, true},
			{api.Field{Kind: 1, Value: c + "0"}, bcd},
			{api.Field{Kind: 1, Value: "0" + c}, bcd},
			{api.Field{Kind: 1, Value: "000" + c}, bcd},
			{api.Field{Kind: 1, Value: c}, false},
			{api.Field{Kind: 2, Value: c}, six},
			{api.Field{Kind: 2, Value: c + "A"}, six},
			{api.Field{Kind: 2, Value: "ABCD" + c}, six},
			{api.Field{Kind: 2, Value: "AB" + c}, false},
			{api.Field{Kind: 3, Value: c + "A"}, true},
			{api.Field{Kind: 3, Value: "A" + c}, true},
			{api.Field{Kind: 3, Value: c}, false},
		} {
			if got := fields.Valid(y.f); got != y.want {
				t.Errorf("%#v: %t", y.f, got)
			}
		}
	}
}

// P2.1
func TestKindIsNoneOfTheFour(t *testing.T) {
	for _, kind := range []int{math.MinInt, math.MinInt + 3, -256, -253, -4, -3, -2, -1, 4, 5, 6, 7, 64, 128, 192, 255, 256, 257, 259, 65536, 65539, math.MaxInt32, math.MaxInt} {
		for _, value := range []string{"", "1", "12", "ABCD"} {
			f := api.Field{Kind: kind, Value: value}
			if fields.Valid(f) {
				t.Errorf("%#v is valid", f)
			}
			if b, e := fields.Encode(f); b != nil || e != api.ErrInvalid {
				t.Errorf("%#v is encoded as % X, error %d", f, b, e)
			}
		}
	}
}

// P2.1
func TestEncodeOfInvalidField(t *testing.T) {
	for _, f := range []api.Field{
		{Kind: 0, Value: strings.Repeat("x", 64)},
		{Kind: 1, Value: "1"},
		{Kind: 1, Value: "123"},
		{Kind: 1, Value: "1A"},
		{Kind: 1, Value: "A1"},
		{Kind: 1, Value: "+1"},
		{Kind: 1, Value: strings.Repeat("1", 127)},
		{Kind: 1, Value: strings.Repeat("1", 128)},
		{Kind: 2, Value: "ABC"},
		{Kind: 2, Value: "ABCDEFG"},
		{Kind: 2, Value: "a"},
		{Kind: 2, Value: "`"},
		{Kind: 2, Value: "\x1F"},
		{Kind: 2, Value: strings.Repeat("A", 83)},
		{Kind: 2, Value: strings.Repeat("A", 85)},
		{Kind: 3, Value: "a"},
		{Kind: 3, Value: strings.Repeat("x", 64)},
		{Kind: 3, Value: strings.Repeat("x", 257)},
	} {
		if b, e := fields.Encode(f); b != nil || e != api.ErrInvalid {
			t.Errorf("%#v is encoded as % X, error %d", f, b, e)
		}
	}
}

// P2.1
func TestEncodeOfKnownFields(t *testing.T) {
	for _, x := range known {
		if b, e := fields.Encode(x.f); e != api.OK || !bytes.Equal(b, x.b) {
			t.Errorf("%#v is encoded as % X, error %d", x.f, b, e)
		}
	}
}

// P2.1
func TestEncodeOfBytes(t *testing.T) {
	for _, f := range samples() {
		if f.Kind != 0 && f.Kind != 3 {
			continue
		}
		want := append([]byte{byte(64*f.Kind + len(f.Value))}, f.Value...)
		if b, e := fields.Encode(f); e != api.OK || !bytes.Equal(b, want) {
			t.Errorf("%#v is encoded as % X, error %d", f, b, e)
		}
	}
}

// P2.1
func TestEncodeOfAllPairsOfBCD(t *testing.T) {
	for i, high := range []byte(bcdCharacters) {
		for j, low := range []byte(bcdCharacters) {
			f := api.Field{Kind: 1, Value: "40" + string([]byte{high, low})}
			want := []byte{0x42, 0x40, byte(16*i + j)}
			if b, e := fields.Encode(f); e != api.OK || !bytes.Equal(b, want) {
				t.Errorf("%#v is encoded as % X, error %d", f, b, e)
			}
		}
	}
}

// P2.1
func TestEncodeOfSix(t *testing.T) {
	count := 0
	for _, f := range samples() {
		if f.Kind != 2 {
			continue
		}
		count++
		if b, e := fields.Encode(f); e != api.OK || !bytes.Equal(b, encodedSix(f.Value)) {
			t.Errorf("%#v is encoded as % X, error %d", f, b, e)
		}
	}
	if count != 64 {
		t.Errorf("%d lengths, not 64", count)
	}
}

// P2.1
func TestLongestEncodings(t *testing.T) {
	for _, x := range []struct {
		f     api.Field
		first byte
	}{
		{api.Field{Kind: 0, Value: strings.Repeat("\xFF", 63)}, 0x3F},
		{api.Field{Kind: 1, Value: strings.Repeat("9", 126)}, 0x7F},
		{api.Field{Kind: 2, Value: strings.Repeat("_", 84)}, 0xBF},
		{api.Field{Kind: 3, Value: strings.Repeat("z", 63)}, 0xFF},
	} {
		b, e := fields.Encode(x.f)
		if e != api.OK || len(b) != 64 || b[0] != x.first {
			t.Errorf("%#v is encoded as % X, error %d", x.f, b, e)
		}
		if f, n, end, e := fields.Decode(b); f != x.f || n != 64 || end || e != api.OK {
			t.Errorf("% X is decoded as %#v, %d bytes, %t, error %d", b, f, n, end, e)
		}
	}
}

// P2.2
func TestDecodeOfKnownBytes(t *testing.T) {
	for _, x := range known {
		if f, n, end, e := fields.Decode(x.b); f != x.f || n != len(x.b) || end || e != api.OK {
			t.Errorf("% X is decoded as %#v, %d bytes, %t, error %d", x.b, f, n, end, e)
		}
	}
}

// P2.2
func TestBytesBehindDoNotMatter(t *testing.T) {
	for _, behind := range [][]byte{{0}, {0xC1}, {0xFF, 0xFF}, bytes.Repeat([]byte{0xDE}, 100)} {
		for _, f := range samples() {
			b, _ := fields.Encode(f)
			if got, n, end, e := fields.Decode(append(b, behind...)); got != f || n != len(b) || end || e != api.OK {
				t.Errorf("% X and % X are decoded as %#v, %d bytes, %t, error %d", b, behind, got, n, end, e)
			}
		}
		b := append([]byte{0xC1}, behind...)
		if f, n, end, e := fields.Decode(b); f != (api.Field{}) || n != 1 || !end || e != api.OK {
			t.Errorf("% X is decoded as %#v, %d bytes, %t, error %d", b, f, n, end, e)
		}
	}
}

// P2.2
func TestDecodeOfEndMark(t *testing.T) {
	if f, n, end, e := fields.Decode([]byte{0xC1}); f != (api.Field{}) || n != 1 || !end || e != api.OK {
		t.Errorf("the end mark is decoded as %#v, %d bytes, %t, error %d", f, n, end, e)
	}
	for x := range 256 {
		b := append([]byte{byte(x)}, make([]byte, 63)...)
		if _, _, end, e := fields.Decode(b); end != (x == 0xC1) || e != api.OK {
			t.Errorf("the first byte %02X: %t, error %d", x, end, e)
		}
	}
}

func failsWith(t *testing.T, b []byte, want api.Errno) {
	t.Helper()
	if f, n, end, e := fields.Decode(b); f != (api.Field{}) || n != 0 || end || e != want {
		t.Errorf("% X is decoded as %#v, %d bytes, %t, error %d", b, f, n, end, e)
	}
}

// P2.2: the data are malformed from the first byte on where their kind permits it, but that they are too short comes first.
func TestDecodeOfTooFewBytes(t *testing.T) {
	failsWith(t, nil, api.ErrTruncated)
	failsWith(t, []byte{}, api.ErrTruncated)
	for first := range 256 {
		if first == 0xC1 {
			continue
		}
		for n := range first % 64 {
			for _, filler := range []byte{0x00, 0xC1, 0xFF} {
				b := append([]byte{byte(first)}, bytes.Repeat([]byte{filler}, n)...)
				failsWith(t, b, api.ErrTruncated)
			}
		}
	}
}

// P2.2
func TestDecodeOfEachByteOfBCD(t *testing.T) {
	for x := range 256 {
		first, second := []byte{0x41, byte(x)}, []byte{0x43, 0x12, byte(x), 0x34}
		high, low := x/16, x%16
		if high >= 13 || low >= 13 {
			failsWith(t, first, api.ErrForm)
			failsWith(t, second, api.ErrForm)
			continue
		}
		value := string([]byte{bcdCharacters[high], bcdCharacters[low]})
		if f, n, end, e := fields.Decode(first); f != (api.Field{Kind: 1, Value: value}) || n != 2 || end || e != api.OK {
			t.Errorf("% X is decoded as %#v, %d bytes, %t, error %d", first, f, n, end, e)
		}
		if f, n, end, e := fields.Decode(second); f != (api.Field{Kind: 1, Value: "12" + value + "34"}) || n != 4 || end || e != api.OK {
			t.Errorf("% X is decoded as %#v, %d bytes, %t, error %d", second, f, n, end, e)
		}
	}
}

// P2.2
func TestDecodeOfBitsBehindSix(t *testing.T) {
	for size := range 64 {
		characters := 8 * size / 6
		for bit := range 8 * size {
			b := make([]byte, 1+size)
			b[0] = byte(0x80 + size)
			b[1+bit/8] = 1 << (bit % 8)
			if bit >= 6*characters {
				failsWith(t, b, api.ErrForm)
				continue
			}
			value := []byte(strings.Repeat(" ", characters))
			value[bit/6] += 1 << (bit % 6)
			if f, n, end, e := fields.Decode(b); f != (api.Field{Kind: 2, Value: string(value)}) || n != 1+size || end || e != api.OK {
				t.Errorf("% X is decoded as %#v, %d bytes, %t, error %d", b, f, n, end, e)
			}
		}
	}
}

// P2.1, P2.2
func TestDecodeOfEncode(t *testing.T) {
	for _, f := range samples() {
		if !fields.Valid(f) {
			t.Errorf("%#v is not valid", f)
		}
		b, e := fields.Encode(f)
		if e != api.OK || int(b[0]) != 64*f.Kind+len(b)-1 {
			t.Errorf("%#v is encoded as % X, error %d", f, b, e)
		}
		if got, n, end, e := fields.Decode(b); got != f || n != len(b) || end || e != api.OK {
			t.Errorf("% X is decoded as %#v, %d bytes, %t, error %d", b, got, n, end, e)
		}
	}
}

// P2.1, P2.2
func TestEncodeOfDecode(t *testing.T) {
	r := rand.New(rand.NewSource(2))
	var decoded [4]int
	for range 50000 {
		b := make([]byte, 1+r.Intn(8))
		r.Read(b)
		b[0] = byte(64*r.Intn(4) + r.Intn(9))
		if problem := wrongDecoding(b); problem != "" {
			t.Fatalf("% X: %s", b, problem)
		}
		if f, _, end, e := fields.Decode(b); e == api.OK && !end {
			decoded[f.Kind]++
		}
	}
	for kind, n := range decoded {
		if n < 100 {
			t.Errorf("only %d fields of the kind %d were decoded", n, kind)
		}
	}
}

// bestOf encodes a text in all the three kinds.
func bestOf(text string) (best api.Field, e api.Errno) {
	shortest := math.MaxInt
	for kind := 1; kind <= 3; kind++ {
		f := api.Field{Kind: kind, Value: text}
		if b, e := fields.Encode(f); e == api.OK && len(b) < shortest {
			best, shortest = f, len(b)
		}
	}
	if shortest == math.MaxInt {
		return api.Field{}, api.ErrForm
	}
	return best, api.OK
}

// P2.3
func TestBestOfKnownTexts(t *testing.T) {
	const none = 0
	for _, x := range []struct {
		text string
		kind int
	}{
		{"", api.FieldBCD},
		{"12.5", api.FieldBCD},
		{" -", api.FieldBCD},
		{"1", api.FieldSix},
		{"A", api.FieldSix},
		{"AB", api.FieldSix}, // as long as a text
		{"1A", api.FieldSix},
		{"12345", api.FieldSix},
		{"IPMI", api.FieldSix},
		{"123", api.FieldText},
		{"ABC", api.FieldText},
		{"1234567", api.FieldText},
		{"ab", api.FieldText},
		{"IPMIa", api.FieldText},
		{"\x00\xFF", api.FieldText},
		{"a", none},
		{"`", none},
		{"\x1F", none},
		{"\xC1", none},
		{strings.Repeat("1", 126), api.FieldBCD},
		{strings.Repeat("1", 63), api.FieldText},
		{strings.Repeat("1", 65), api.FieldSix},
		{strings.Repeat("1", 67), none},
		{strings.Repeat("1", 127), none},
		{strings.Repeat("1", 128), none},
		{strings.Repeat("A", 84), api.FieldSix},
		{strings.Repeat("A", 83), none},
		{strings.Repeat("A", 85), none},
		{strings.Repeat("A", 63), api.FieldText},
		{strings.Repeat("a", 63), api.FieldText},
		{strings.Repeat("a", 64), none},
	} {
		want, wantError := api.Field{Kind: x.kind, Value: x.text}, api.OK
		if x.kind == none {
			want, wantError = api.Field{}, api.ErrForm
		}
		if f, e := fields.Best(x.text); f != want || e != wantError {
			t.Errorf("the best field of %q is %#v, error %d", x.text, f, e)
		}
	}
}

// P2.3
func TestBestIsTheShortest(t *testing.T) {
	texts := []string{""}
	for first := 0; first < len(texts) && len(texts[first]) < 5; first++ {
		for _, c := range "05 .-A_a\x1F" {
			texts = append(texts, texts[first]+string(c))
		}
	}
	for n := range 140 {
		for _, c := range []string{"1", "A", "a", "\xFF"} {
			texts = append(texts, strings.Repeat(c, n), "1"+strings.Repeat(c, n), strings.Repeat(c, n)+"A")
		}
	}
	for _, text := range texts {
		f, e := fields.Best(text)
		want, wantError := bestOf(text)
		if f != want || e != wantError {
			t.Fatalf("the best field of %q is %#v, error %d", text, f, e)
		}
	}
}

// R1
func FuzzDecode(f *testing.F) {
	f.Add([]byte(nil))
	for _, x := range known {
		f.Add(x.b)
	}
	for n := range 18 {
		_, b := list(n)
		f.Add(append(b, 0xC1))
	}
	f.Fuzz(func(t *testing.T, b []byte) {
		if problem := wrongDecoding(b); problem != "" {
			t.Errorf("% X: %s", b, problem)
		}
	})
}

// R1
func FuzzEncode(f *testing.F) {
	for _, x := range known {
		f.Add(x.f.Kind, x.f.Value)
	}
	f.Add(-1, "")
	f.Add(4, "A")
	f.Fuzz(func(t *testing.T, kind int, value string) {
		x := api.Field{Kind: kind, Value: value}
		b, e := fields.Encode(x)
		if fields.Valid(x) != valid(x) || (e == api.OK) != valid(x) || e != api.OK && (b != nil || e != api.ErrInvalid) {
			t.Fatalf("%#v is encoded as % X, error %d", x, b, e)
		}
		if e == api.OK {
			if got, n, end, e := fields.Decode(b); got != x || n != len(b) || end || e != api.OK {
				t.Errorf("% X is decoded as %#v, %d bytes, %t, error %d", b, got, n, end, e)
			}
		}
		best, e := fields.Best(value)
		if want, wantError := bestOf(value); best != want || e != wantError {
			t.Errorf("the best field of %q is %#v, error %d", value, best, e)
		}
	})
}
