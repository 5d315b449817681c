package convert_test

import (
	"fmt"
	"math"
	"math/rand"
	"testing"

	"baseboard/api"
	"baseboard/convert"
	"baseboard/micro"
)

func checkValid(t *testing.T, c api.Conversion, want bool) {
	t.Helper()
	if got := convert.Valid(c); got != want {
		t.Errorf("Valid of %v is %t", c, got)
	}
}

// P4.1
func TestValidAtTheLimitsOfEachNumber(t *testing.T) {
	for form := api.FormLinear; form <= api.FormRoot; form++ {
		for _, v := range []int{math.MinInt, -65536, -1025, -514, -513, -512, -511, -4, -3, -2, -1, 0, 1, 2, 3, 4, 510, 511, 512, 513, 1024, 65536, math.MaxInt} {
			factor, exponent := v >= -512 && v <= 511, v >= -3 && v <= 3
			for _, s := range []bool{false, true} {
				checkValid(t, api.Conversion{Form: form, Signed: s, M: v}, factor)
				checkValid(t, api.Conversion{Form: form, Signed: s, B: v}, factor)
				checkValid(t, api.Conversion{Form: form, Signed: s, K1: v}, exponent)
				checkValid(t, api.Conversion{Form: form, Signed: s, K2: v}, exponent)
				checkValid(t, api.Conversion{Form: form, Signed: s, M: v, B: v, K1: v, K2: v}, exponent)
			}
		}
		checkValid(t, linear(form, 511, 511, 3, 3), true)
		checkValid(t, linear(form, -512, -512, -3, -3), true)
	}
}

// P4.1
func TestValidOfEdges(t *testing.T) {
	for _, c := range edges() {
		checkValid(t, c, true)
	}
}

// P4.1
func TestValidOfForms(t *testing.T) {
	two := []api.Point{{Raw: 1}, {Raw: 2}}
	for _, form := range []int{math.MinInt, -256, -5, -2, -1, 0, 1, 2, 3, 4, 5, 6, 7, 8, 0x81, 0x85, 257, 261, 1<<32 + 1, math.MaxInt} {
		for _, s := range []bool{false, true} {
			checkValid(t, api.Conversion{Form: form, Signed: s, M: 1}, form >= 1 && form <= 4)
			checkValid(t, api.Conversion{Form: form, Signed: s}, form >= 1 && form <= 4)
			checkValid(t, api.Conversion{Form: form, Signed: s, Points: two}, form == 5)
		}
	}
}

// P4.1
func TestFormsWithPoints(t *testing.T) {
	for form := api.FormLinear; form <= api.FormRoot; form++ {
		for n := range 14 {
			c := numbered(n)
			c.Form, c.M = form, 1
			checkValid(t, c, n == 0)
		}
		checkValid(t, api.Conversion{Form: form, Points: []api.Point{}}, true)
		checkValid(t, api.Conversion{Form: form, Points: []api.Point{{}}}, false)
	}
}

// P4.1
func TestTablesWithOtherNumbers(t *testing.T) {
	for _, v := range []int{math.MinInt, -1, 1, 3, 511, math.MaxInt} {
		for i := range 4 {
			c := numbered(3)
			*[]*int{&c.M, &c.B, &c.K1, &c.K2}[i] = v
			checkValid(t, c, false)
			checkValid(t, signed(c), false)
		}
	}
}

// P4.1
func TestNumbersOfPoints(t *testing.T) {
	for _, n := range []int{0, 1, 2, 3, 6, 11, 12, 13, 14, 24} {
		checkValid(t, numbered(n), n >= 2 && n <= 12)
	}
	// As bytes, these would be numbers of points that a table can have.
	for _, n := range []int{255, 256, 258, 268, 65538} {
		checkValid(t, api.Conversion{Form: api.FormTable, Points: make([]api.Point, n)}, false)
	}
}

// P4.1
func TestNumbersOfPointsAscend(t *testing.T) {
	for a := range 256 {
		for b := range 256 {
			c := table(api.Point{Raw: uint8(a)}, api.Point{Raw: uint8(b)})
			checkValid(t, c, a < b)
			checkValid(t, signed(c), int8(a) < int8(b))
		}
	}
}

// P4.1
func TestEachPointIsChecked(t *testing.T) {
	for n := 2; n <= 12; n++ {
		for i := range n {
			same, beyond, below := numbered(n), numbered(n), numbered(n)
			if i > 0 {
				same.Points[i].Raw = same.Points[i-1].Raw
				checkValid(t, same, false)
				same.Points[i].Raw--
				checkValid(t, same, false)
			}
			beyond.Points[i].Value = limit + 1
			checkValid(t, beyond, false)
			below.Points[i].Value = -limit - 1
			checkValid(t, below, false)
		}
	}
}

// P4.1
func TestValuesOfPoints(t *testing.T) {
	for _, v := range []int64{math.MinInt64, -2 * limit, -limit - 1, -limit, 1 - limit, 0, limit - 1, limit, limit + 1, 2 * limit, math.MaxInt64} {
		for i := range 2 {
			c := numbered(2)
			c.Points[i].Value = v
			checkValid(t, c, v >= -limit && v <= limit)
			checkValid(t, signed(c), v >= -limit && v <= limit)
		}
	}
}

// P4.1
func TestValidOfSamples(t *testing.T) {
	for _, c := range few() {
		checkValid(t, c, true)
	}
	for _, c := range wrong {
		checkValid(t, c, false)
	}
}

// P4.1
func TestNumber(t *testing.T) {
	for _, x := range []struct {
		raw              uint8
		unsigned, signed int
	}{
		{0, 0, 0}, {1, 1, 1}, {0x7E, 126, 126}, {0x7F, 127, 127}, {0x80, 128, -128}, {0x81, 129, -127}, {0xFE, 254, -2}, {0xFF, 255, -1},
	} {
		if a, b := convert.Number(false, x.raw), convert.Number(true, x.raw); a != x.unsigned || b != x.signed {
			t.Errorf("%02X: %d and %d", x.raw, a, b)
		}
	}
	for raw := range 256 {
		for _, s := range []bool{false, true} {
			if got := convert.Number(s, uint8(raw)); got != wantNumber(s, uint8(raw)) {
				t.Errorf("%02X, signed %t: %d", raw, s, got)
			}
		}
	}
}

func checkKnown(t *testing.T, c api.Conversion, raw uint8, want int64, wantError api.Errno) {
	t.Helper()
	if got, e := convert.Value(c, raw); got != want || e != wantError {
		t.Errorf("Value of %02X by %v is %d, error %d, not %d, error %d", raw, c, got, e, want, wantError)
	}
}

// P4.2
func TestLinearValues(t *testing.T) {
	for _, x := range []struct {
		c    api.Conversion
		raw  uint8
		want int64
	}{
		{linear(1, 5, -10, 1, -2), 100, 4_000_000},
		{linear(1, 1, 0, 0, 0), 0, 0},
		{linear(1, 1, 0, 0, 0), 0x7F, 127_000_000},
		{linear(1, 1, 0, 0, 0), 0x80, 128_000_000},
		{linear(1, 1, 0, 0, 0), 0xFF, 255_000_000},
		{signed(linear(1, 1, 0, 0, 0)), 0x7F, 127_000_000},
		{signed(linear(1, 1, 0, 0, 0)), 0x80, -128_000_000},
		{signed(linear(1, 1, 0, 0, 0)), 0xFF, -1_000_000},
		{signed(linear(1, -3, 1, 0, 0)), 0x80, 385_000_000},
		{linear(1, 0, 1, 0, 0), 99, 1_000_000},
		{linear(1, 0, 0, 3, 3), 99, 0},
		{linear(1, 1, 1, -3, -3), 0, 1},
		{linear(1, 1, 1, -3, -3), 1, 1001},
		{linear(1, 0, -512, -3, -3), 1, -512},
		{linear(1, 0, 511, 3, -3), 1, 511_000_000},
		{linear(1, 0, 511, -3, 3), 1, 511_000_000},
		{linear(1, 1, 0, 3, -3), 7, 7000},
		{linear(1, 7, 0, 0, 3), 3, 21_000_000_000},
		{linear(1, -7, 20, 0, 1), 3, -10_000_000},
		{linear(1, 2, 3, 2, 1), 5, 3_100_000_000},
		{linear(1, 2, 3, -2, -1), 5, 1_003_000},
	} {
		checkKnown(t, x.c, x.raw, x.want, api.OK)
	}
}

// P4.2
func TestClampedLinearValues(t *testing.T) {
	for _, x := range []struct {
		c    api.Conversion
		raw  uint8
		want int64
	}{
		{linear(1, 511, 511, 3, 3), 0xFF, limit},
		{linear(1, -512, -512, 3, 3), 0xFF, -limit},
		{signed(linear(1, 511, 0, 0, 1)), 0x7F, 648_970_000_000},
		{signed(linear(1, 511, 0, 0, 2)), 0x7F, limit},
		{signed(linear(1, 511, 0, 0, 2)), 0x80, -limit},
		{signed(linear(1, 511, -512, 3, 3)), 0x80, -limit},
		{signed(linear(1, -512, 511, 3, 3)), 0x80, limit},
		{linear(1, 0, 1, 3, 3), 1, limit},
		{linear(1, 1, 1, 3, 3), 1, limit},
		{linear(1, -1, 1, 3, 3), 1, 999_000_000_000},
		{linear(1, 0, -1, 3, 3), 1, -limit},
		{linear(1, -1, -1, 3, 3), 1, -limit},
		{linear(1, 1, -1, 3, 3), 1, -999_000_000_000},
		// The sum is within the limit, while its parts are not.
		{linear(1, 511, -130, 3, 3), 0xFF, 305_000_000_000},
		{linear(1, -512, 131, 3, 3), 0xFF, 440_000_000_000},
		// The sum is within the limit until it is multiplied with 10^K2.
		{linear(1, 100, 0, 0, 3), 100, limit},
		{linear(1, 0, 511, 2, 3), 0, limit},
		{linear(1, 0, 511, 3, 0), 0, 511_000_000_000},
		{linear(1, 511, 511, 3, 0), 0xFF, 641_305_000_000},
		{linear(1, 511, 511, 3, -3), 0xFF, 641_305_000},
	} {
		checkKnown(t, x.c, x.raw, x.want, api.OK)
	}
}

// P4.2
func TestReciprocals(t *testing.T) {
	for _, x := range []struct {
		c    api.Conversion
		raw  uint8
		want int64
		e    api.Errno
	}{
		{linear(2, 1, 0, 0, 0), 1, one, api.OK},
		{linear(2, 1, 0, 0, 0), 3, 333_333, api.OK},
		{linear(2, -1, 0, 0, 0), 3, -333_334, api.OK},
		{linear(2, 1, 0, 0, 0), 255, 3921, api.OK},
		{linear(2, 1, 0, 0, 0), 0, 0, api.ErrZero},
		{linear(2, 1, -10, 0, 0), 10, 0, api.ErrZero},
		{linear(2, 1, -10, 0, 0), 9, -one, api.OK},
		{linear(2, 1, -10, 0, 0), 11, one, api.OK},
		{signed(linear(2, 1, 0, 0, 0)), 0xFF, -one, api.OK},
		{signed(linear(2, 1, 1, 0, 0)), 0xFF, 0, api.ErrZero},
		{linear(2, 0, 0, 3, 3), 77, 0, api.ErrZero},
		{linear(2, 0, 1, -3, -3), 1, limit, api.OK},
		{linear(2, 0, -1, -3, -3), 1, -limit, api.OK},
		{linear(2, 0, 511, 3, 3), 1, 1, api.OK},
		{linear(2, 0, -512, 3, 3), 1, -1, api.OK},
		{linear(2, 511, 0, 0, 0), 255, 7, api.OK},
		{linear(2, -511, 0, 0, 0), 255, -8, api.OK},
		{linear(2, 511, 0, 0, 3), 255, 1, api.OK},
		{linear(2, -511, 0, 0, 3), 255, -1, api.OK},
	} {
		checkKnown(t, x.c, x.raw, x.want, x.e)
	}
}

// P4.2
func TestSquares(t *testing.T) {
	for _, x := range []struct {
		c    api.Conversion
		raw  uint8
		want int64
	}{
		{linear(3, 1, 0, 0, 0), 0, 0},
		{linear(3, 1, 0, 0, 0), 12, 144_000_000},
		{linear(3, -1, 0, 0, 0), 12, 144_000_000},
		{signed(linear(3, 1, 0, 0, 0)), 0xFF, one},
		{signed(linear(3, 1, 0, 0, 0)), 0x80, 16_384_000_000},
		{signed(linear(3, 1, 0, 0, 0)), 0x7F, 16_129_000_000},
		{linear(3, 1, 0, 0, -3), 1, 1},
		{linear(3, -1, 0, 0, -3), 1, 1},
		{linear(3, 0, 1, -3, -3), 1, 0},
		{linear(3, 0, -1, -3, -3), 1, 0},
		{linear(3, 1, 500, -3, -3), 1, 2},
		{linear(3, 100, 0, 0, 0), 10, limit},
		{linear(3, -100, 0, 0, 0), 10, limit},
		{linear(3, 100, 1, 0, 0), 10, limit},
		{linear(3, 111, 0, 0, 0), 9, 998_001_000_000},
		{linear(3, -512, -512, 3, 3), 255, limit},
	} {
		checkKnown(t, x.c, x.raw, x.want, api.OK)
	}
}

// P4.2
func TestRoots(t *testing.T) {
	for _, x := range []struct {
		c    api.Conversion
		raw  uint8
		want int64
		e    api.Errno
	}{
		{linear(4, 1, 0, 0, 0), 0, 0, api.OK},
		{linear(4, 1, 0, 0, 0), 2, 1_414_213, api.OK},
		{linear(4, 1, 0, 0, 0), 144, 12_000_000, api.OK},
		{linear(4, 1, -10, 0, 0), 10, 0, api.OK},
		{linear(4, 1, -10, 0, 0), 9, 0, api.ErrRange},
		{linear(4, -1, 0, 0, 0), 1, 0, api.ErrRange},
		{linear(4, 0, -1, -3, -3), 1, 0, api.ErrRange},
		{linear(4, 0, 1, -3, -3), 1, 1000, api.OK},
		{signed(linear(4, 1, 0, 0, 0)), 0xFF, 0, api.ErrRange},
		{signed(linear(4, 1, 0, 0, 0)), 0x80, 0, api.ErrRange},
		{signed(linear(4, 1, 0, 0, 0)), 0x7F, 11_269_427, api.OK},
		{signed(linear(4, -1, 0, 0, 0)), 0x80, 11_313_708, api.OK},
		{linear(4, 511, 511, 3, 3), 255, 1_000_000_000, api.OK},
		{linear(4, -512, -512, 3, 3), 255, 0, api.ErrRange},
	} {
		checkKnown(t, x.c, x.raw, x.want, x.e)
	}
}

// P4.2
func TestValueOfInvalidConversions(t *testing.T) {
	for _, c := range wrong {
		for _, raw := range []uint8{0, 1, 0x7F, 0x80, 0xFF} {
			checkKnown(t, c, raw, 0, api.ErrInvalid)
		}
	}
	// ErrInvalid comes before the errors of a reciprocal and of a root.
	checkKnown(t, linear(2, 0, 0, 4, 0), 0, 0, api.ErrInvalid)
	checkKnown(t, linear(4, 0, -513, 0, 0), 0, 0, api.ErrInvalid)
}

func checkValue(t *testing.T, c api.Conversion, raw uint8) {
	t.Helper()
	want, e := wantValue(c, raw)
	checkKnown(t, c, raw, want, e)
}

// P4.2 and P4.3
func TestValuesOfEdges(t *testing.T) {
	for _, c := range edges() {
		for _, raw := range []uint8{0, 1, 2, 10, 100, 0x7F, 0x80, 0xFE, 0xFF} {
			checkValue(t, c, raw)
		}
	}
	for _, c := range few() {
		for raw := range 256 {
			checkValue(t, c, uint8(raw))
		}
	}
}

// P4.2: it is always a whole number of millionths.
func TestLinearValuesAreExact(t *testing.T) {
	for _, c := range edges() {
		for _, raw := range []uint8{0, 1, 0x7F, 0x80, 0xFF} {
			want, whole := wantLinear(c, raw)
			c.Form = api.FormLinear
			if got, e := convert.Value(c, raw); !whole || got != want || e != api.OK {
				t.Errorf("Value of %02X by %v is %d, error %d, whole %t", raw, c, got, e, whole)
			}
		}
	}
}

// P4.2: the forms are functions of package micro of the linear value.
func TestFormsOfLinearValues(t *testing.T) {
	r := rand.New(rand.NewSource(42))
	for range 3000 {
		c := linear(1, r.Intn(1024)-512, r.Intn(1024)-512, r.Intn(7)-3, r.Intn(7)-3)
		c.Signed = r.Intn(2) == 0
		raw := uint8(r.Intn(256))
		y, _ := convert.Value(c, raw)
		c.Form = api.FormReciprocal
		want, e := micro.Div(api.One, y)
		checkKnown(t, c, raw, want, e)
		c.Form = api.FormSquare
		checkKnown(t, c, raw, micro.Mul(y, y), api.OK)
		c.Form = api.FormRoot
		want, e = micro.Root(y)
		checkKnown(t, c, raw, want, e)
	}
}

func Example() {
	volts := api.Conversion{Form: api.FormLinear, M: 5, B: -10, K1: 1, K2: -2}
	v, e := convert.Value(volts, 100)
	fmt.Println(micro.Format(v), e)
	raw, e := convert.Nearest(volts, 4*api.One)
	fmt.Println(raw, e)
	fmt.Println(convert.Number(true, 0xFF))
	curve := api.Conversion{Form: api.FormTable, Points: []api.Point{{Raw: 0, Value: 0}, {Raw: 10, Value: api.One}}}
	v, e = convert.Value(curve, 3)
	fmt.Println(micro.Format(v), e)
	b, e := convert.Encode(volts)
	fmt.Printf("% X %d\n", b, e)
	// Output:
	// 4 0
	// 100 0
	// -1
	// 0.3 0
	// 01 05 00 F6 FF 01 FE 0
}
