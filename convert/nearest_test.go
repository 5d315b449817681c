package convert_test

import (
	"math"
	"math/rand"
	"testing"

	"baseboard/api"
	"baseboard/convert"
)

var (
	// No raw reading has a value by these conversions.
	nowhere = []api.Conversion{
		linear(2, 0, 0, 0, 0), linear(2, 0, 0, 3, 3), signed(linear(2, 0, 0, -3, -3)),
		linear(4, 0, -1, 0, 0), linear(4, 0, -1, -3, -3), linear(4, 0, -512, 3, 3), signed(linear(4, 0, -1, 0, 0)),
		linear(4, -1, -1, 0, 0), linear(4, -512, -512, 3, 3), signed(linear(4, 1, -128, 0, 0)), signed(linear(4, -1, -129, 0, 0)), linear(4, 1, -256, 0, 0),
	}

	flat = linear(1, 0, 7, 0, 0)
	// The values fall to 0 at the number 0, and rise again.
	valley = signed(linear(3, 1, 0, 0, 0))
)

func checkNearest(t *testing.T, c api.Conversion, v int64, want uint8, wantError api.Errno) {
	t.Helper()
	if got, e := convert.Nearest(c, v); got != want || e != wantError {
		t.Errorf("Nearest to %d by %v is %02X, error %d, not %02X, error %d", v, c, got, e, want, wantError)
	}
}

// P4.4
func TestKnownNearestReadings(t *testing.T) {
	units, falling := linear(1, 1, 0, 0, 0), linear(1, -1, 0, 0, 0)
	for _, x := range []struct {
		c    api.Conversion
		v    int64
		want uint8
	}{
		{linear(1, 5, -10, 1, -2), 4_000_000, 100},
		{units, 0, 0}, {units, 100_000_000, 100}, {units, 100_499_999, 100}, {units, 100_500_001, 101}, {units, 255_000_000, 0xFF},
		{units, -1, 0}, {units, 256_000_000, 0xFF},
		{signed(units), -128_000_000, 0x80}, {signed(units), -1_000_000, 0xFF}, {signed(units), -129_000_000, 0x80}, {signed(units), 128_000_000, 0x7F},
		{falling, 1, 0}, {falling, -100_000_000, 100}, {falling, -300_000_000, 0xFF},
		// Equally near: the least number.
		{units, 100_500_000, 100}, {units, 500_000, 0}, {falling, -100_500_000, 100},
		{signed(units), -500_000, 0xFF}, {signed(units), 500_000, 0}, {signed(units), -127_500_000, 0x80},
		{flat, 7_000_000, 0}, {flat, 0, 0}, {flat, limit, 0}, {signed(flat), 7_000_000, 0x80}, {signed(flat), -limit, 0x80},
		{valley, 0, 0}, {valley, 4_000_000, 0xFE}, {valley, 2_500_000, 0xFE}, {valley, 2_499_999, 0xFF}, {valley, limit, 0x80}, {valley, -limit, 0},
		{linear(1, 511, 0, 0, 3), limit, 2}, {signed(linear(1, 511, 0, 0, 3)), -limit, 0x80}, {linear(1, -511, 0, 0, 3), -limit, 2},
		// Only some raw readings have a value.
		{linear(2, 1, 0, 0, 0), 0, 0xFF}, {linear(2, 1, 0, 0, 0), limit, 1}, {signed(linear(2, 1, 0, 0, 0)), 0, 0x80}, {signed(linear(2, 1, 0, 0, 0)), 30, 0x80}, {signed(linear(2, 1, 0, 0, 0)), 31, 0x7F}, {signed(linear(2, 1, 0, 0, 0)), -limit, 0xFF},
		{linear(4, 1, -10, 0, 0), 0, 10}, {linear(4, 1, -10, 0, 0), -limit, 10}, {linear(4, -1, 10, 0, 0), 0, 10}, {linear(4, 1, -255, 0, 0), limit, 0xFF}, {signed(linear(4, -1, 0, 0, 0)), 11_000_000, 0x87},
		// Beyond the first and the last point of a table, all values are equal.
		{numbered(3), 0, 0}, {numbered(3), -5, 0}, {numbered(3), 4 * one, 30}, {numbered(3), limit, 30}, {signed(numbered(3)), 0, 0x80}, {signed(numbered(3)), limit, 30},
		{zigzag, 1, 27}, {zigzag, -1, 0}, {zigzag, 0, 24},
	} {
		checkNearest(t, x.c, x.v, x.want, api.OK)
	}
}

// P4.4: v is clamped; the difference of a value and v as it is could overflow.
func TestNearestToWhatIsBeyondTheLimit(t *testing.T) {
	wide := table(api.Point{Raw: 3, Value: -limit}, api.Point{Raw: 250, Value: limit})
	for _, v := range []int64{limit, limit + 1, 2 * limit, 5 * limit, math.MaxInt64 - limit, math.MaxInt64 - 1, math.MaxInt64} {
		checkNearest(t, wide, v, 250, api.OK)
		checkNearest(t, wide, -v, 0, api.OK)
		checkNearest(t, signed(numbered(4)), v, 40, api.OK)
		checkNearest(t, signed(numbered(4)), -v, 0x80, api.OK)
		checkNearest(t, linear(1, -512, 511, 0, 3), v, 0, api.OK)
		checkNearest(t, linear(1, -512, 511, 0, 3), -v, 3, api.OK)
		checkNearest(t, flat, v, 0, api.OK)
		checkNearest(t, flat, -v, 0, api.OK)
	}
	checkNearest(t, wide, math.MinInt64, 0, api.OK)
	checkNearest(t, flat, math.MinInt64, 0, api.OK)
	checkNearest(t, linear(1, -512, 511, 0, 3), math.MinInt64, 3, api.OK)
}

// P4.4
func TestNearestWhereNothingIs(t *testing.T) {
	for _, c := range nowhere {
		for _, v := range []int64{0, 1, -1, limit, -limit, math.MaxInt64, math.MinInt64} {
			checkNearest(t, c, v, 0, api.ErrMissing)
		}
	}
	// A single raw reading has a value.
	checkNearest(t, linear(4, -1, 0, 0, 0), limit, 0, api.OK)
	checkNearest(t, linear(4, 1, -255, 0, 0), -limit, 0xFF, api.OK)
	checkNearest(t, signed(linear(4, -1, -128, 0, 0)), 5, 0x80, api.OK)
	checkNearest(t, signed(linear(4, 1, -127, 0, 0)), 5, 0x7F, api.OK)
}

// P4.4
func TestNearestOfInvalidConversions(t *testing.T) {
	for _, c := range wrong {
		for _, v := range []int64{0, 1, limit, math.MinInt64} {
			checkNearest(t, c, v, 0, api.ErrInvalid)
		}
	}
	// ErrInvalid comes before ErrMissing.
	checkNearest(t, linear(2, 0, 0, 4, 0), 0, 0, api.ErrInvalid)
	checkNearest(t, linear(4, 0, -513, 0, 0), 0, 0, api.ErrInvalid)
}

// wantNearest goes backwards, so that of several raw readings the first one stays.
func wantNearest(l []reading, v int64) (uint8, api.Errno) {
	v = max(-limit, min(v, limit))
	raw, e, least := uint8(0), api.ErrMissing, uint64(math.MaxUint64)
	for i := range l {
		x := l[len(l)-1-i]
		if difference := uint64(max(v, x.value) - min(v, x.value)); difference <= least {
			raw, e, least = x.raw, api.OK, difference
		}
	}
	return raw, e
}

// P4.4 and Consequences
func TestNearestOfAllReadings(t *testing.T) {
	r := rand.New(rand.NewSource(44))
	for _, c := range few() {
		l := readings(c)
		sought := []int64{0, 1, -1, limit, -limit, limit + 1, math.MaxInt64, math.MinInt64, int64(r.Uint64())}
		for i := range 6 * min(len(l), 1) {
			a, b := l[r.Intn(len(l))].value, l[(r.Intn(len(l))+i)%len(l)].value
			sought = append(sought, a, a-1, a+1, a/2+b/2, (a+b)/2, r.Int63n(limit)-r.Int63n(limit))
		}
		for i := 0; i+1 < len(l); i += 50 {
			sought = append(sought, (l[i].value+l[i+1].value)/2)
		}
		for _, v := range sought {
			want, e := wantNearest(l, v)
			checkNearest(t, c, v, want, e)
		}
	}
}

// Consequences
func TestNearestOfValueHasTheValue(t *testing.T) {
	for _, c := range few() {
		for raw := 0; raw < 256; raw += 5 {
			v, e := convert.Value(c, uint8(raw))
			if e != api.OK {
				continue
			}
			near, e := convert.Nearest(c, v)
			if got, e2 := convert.Value(c, near); got != v || e != api.OK || e2 != api.OK {
				t.Errorf("Nearest to %d by %v is %02X with %d, errors %d and %d", v, c, near, got, e, e2)
			}
		}
	}
}

func checkDirection(t *testing.T, c api.Conversion, want int, wantError api.Errno) {
	t.Helper()
	if got, e := convert.Direction(c); got != want || e != wantError {
		t.Errorf("Direction of %v is %d, error %d, not %d, error %d", c, got, e, want, wantError)
	}
}

// P4.5
func TestKnownDirections(t *testing.T) {
	for _, x := range []struct {
		c    api.Conversion
		want int
	}{
		{linear(1, 1, 0, 0, 0), 1}, {linear(1, -1, 0, 0, 0), -1}, {signed(linear(1, 1, 0, 0, 0)), 1}, {signed(linear(1, -1, 0, 0, 0)), -1},
		{flat, 1}, {signed(flat), 1}, {linear(1, 0, 0, 0, 0), 1},
		// Most values, or all of them, are clamped.
		{linear(1, 511, 0, 0, 3), 1}, {linear(1, -511, 0, 0, 3), -1}, {linear(1, 1, 511, 3, 3), 1}, {linear(1, -1, 511, 3, 3), 1}, {linear(1, -1, -511, 3, 3), 1},
		// Reciprocals change their sign where there is no value.
		{linear(2, 1, 0, 0, 0), -1}, {linear(2, -1, 0, 0, 0), 1}, {signed(linear(2, 1, 0, 0, 0)), 0}, {signed(linear(2, -1, 0, 0, 0)), 0}, {linear(2, 1, -10, 0, 0), 0}, {linear(2, 0, 5, 0, 0), 1},
		{linear(2, 0, 0, 0, 0), 1}, {linear(2, 1, -255, 0, 0), -1}, {linear(2, -1, 255, 0, 0), 1},
		{linear(3, 1, 0, 0, 0), 1}, {linear(3, -1, 0, 0, 0), 1}, {valley, 0}, {linear(3, 1, -255, 0, 0), -1}, {linear(3, 1, -254, 0, 0), 0}, {linear(3, 1, -1, 0, 0), 0}, {linear(3, 0, 5, 0, 0), 1},
		{linear(4, 1, 0, 0, 0), 1}, {linear(4, -1, 255, 0, 0), -1}, {signed(linear(4, 1, 0, 0, 0)), 1}, {signed(linear(4, -1, 0, 0, 0)), -1}, {linear(4, 0, 9, 0, 0), 1},
		// The changes are at the first, or at the last two numbers.
		{table(api.Point{Raw: 0, Value: 0}, api.Point{Raw: 1, Value: 1}), 1}, {table(api.Point{Raw: 0, Value: 1}, api.Point{Raw: 1, Value: 0}), -1},
		{table(api.Point{Raw: 254, Value: 0}, api.Point{Raw: 255, Value: 1}), 1}, {table(api.Point{Raw: 254, Value: 1}, api.Point{Raw: 255, Value: 0}), -1},
		{signed(table(api.Point{Raw: 0x80, Value: 0}, api.Point{Raw: 0x81, Value: 1})), 1}, {signed(table(api.Point{Raw: 0x80, Value: 1}, api.Point{Raw: 0x81, Value: 0})), -1},
		{signed(table(api.Point{Raw: 0x7E, Value: 0}, api.Point{Raw: 0x7F, Value: 1})), 1}, {signed(table(api.Point{Raw: 0x7E, Value: 1}, api.Point{Raw: 0x7F, Value: 0})), -1},
		{signed(table(api.Point{Raw: 0xFF, Value: 0}, api.Point{Raw: 0, Value: 1})), 1}, {signed(table(api.Point{Raw: 0xFF, Value: 1}, api.Point{Raw: 0, Value: 0})), -1},
		{table(api.Point{Raw: 0, Value: 1}, api.Point{Raw: 1, Value: 0}, api.Point{Raw: 2, Value: 1}), 0}, {table(api.Point{Raw: 0, Value: 0}, api.Point{Raw: 1, Value: 1}, api.Point{Raw: 2, Value: 0}), 0},
		{table(api.Point{Raw: 0, Value: 1}, api.Point{Raw: 1, Value: 0}, api.Point{Raw: 254, Value: 0}, api.Point{Raw: 255, Value: 1}), 0},
		{level, 1}, {steps, 1}, {zigzag, 0}, {drop, -1}, {notch, 0}, {numbered(12), 1}, {signed(numbered(12)), 1},
	} {
		checkDirection(t, x.c, x.want, api.OK)
	}
	for _, c := range nowhere {
		checkDirection(t, c, 1, api.OK)
	}
	for _, c := range wrong {
		checkDirection(t, c, 0, api.ErrInvalid)
	}
}

// wantDirection compares the values of all neighbours, and asks for falls first.
func wantDirection(l []reading) int {
	falls, rises := 0, 0
	for i := range max(len(l)-1, 0) {
		if l[i].value > l[i+1].value {
			falls++
		}
		if l[i].value < l[i+1].value {
			rises++
		}
	}
	if falls == 0 {
		return 1
	}
	if rises == 0 {
		return -1
	}
	return 0
}

// P4.5
func TestDirectionOfAllReadings(t *testing.T) {
	found := map[int]int{}
	for _, c := range few() {
		want := wantDirection(readings(c))
		checkDirection(t, c, want, api.OK)
		found[want]++
	}
	if found[-1] < 20 || found[0] < 20 || found[1] < 20 {
		t.Errorf("too few conversions of a direction: %v", found)
	}
}

// Consequences
func TestDirectionOfLinearConversions(t *testing.T) {
	for _, c := range edges() {
		if c.Form != api.FormLinear {
			continue
		}
		least, e := convert.Value(c, byNumber(c.Signed)[0])
		most, e2 := convert.Value(c, byNumber(c.Signed)[255])
		if e != api.OK || e2 != api.OK {
			t.Fatalf("Value by %v: errors %d and %d", c, e, e2)
		}
		if c.M >= 0 || least == most {
			checkDirection(t, c, 1, api.OK)
		} else {
			checkDirection(t, c, -1, api.OK)
		}
	}
}
