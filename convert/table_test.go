package convert_test

import (
	"testing"

	"baseboard/api"
	"baseboard/convert"
)

// P4.3
func TestKnownValuesOfTables(t *testing.T) {
	rising := table(api.Point{Raw: 10, Value: -one}, api.Point{Raw: 20, Value: 0}, api.Point{Raw: 40, Value: 7})
	falling := table(api.Point{Raw: 10, Value: 7}, api.Point{Raw: 13, Value: 0}, api.Point{Raw: 16, Value: -7})
	around := signed(table(api.Point{Raw: 0xF6, Value: 100}, api.Point{Raw: 0x0A, Value: -100}))
	wide := table(api.Point{Raw: 0, Value: -limit}, api.Point{Raw: 255, Value: limit})
	for _, x := range []struct {
		c    api.Conversion
		raw  uint8
		want int64
	}{
		{table(api.Point{Raw: 0, Value: 0}, api.Point{Raw: 10, Value: one}), 3, 300_000},
		// Below the first point and above the last one.
		{rising, 0, -one}, {rising, 9, -one}, {rising, 41, 7}, {rising, 0x7F, 7}, {rising, 0x80, 7}, {rising, 0xFF, 7},
		{falling, 0, 7}, {falling, 9, 7}, {falling, 17, -7}, {falling, 0xFF, -7},
		{signed(rising), 0x80, -one}, {signed(rising), 0xFF, -one}, {signed(rising), 0, -one}, {signed(rising), 0x7F, 7},
		{around, 0x80, 100}, {around, 0xF5, 100}, {around, 0x0B, -100}, {around, 0x7F, -100},
		// At a point.
		{rising, 10, -one}, {rising, 20, 0}, {rising, 40, 7},
		{falling, 10, 7}, {falling, 13, 0}, {falling, 16, -7},
		{around, 0xF6, 100}, {around, 0x0A, -100},
		{wide, 0, -limit}, {wide, 0xFF, limit},
		// Between two points whose values rise.
		{rising, 11, -900_000}, {rising, 19, -100_000}, {rising, 21, 0}, {rising, 22, 0}, {rising, 23, 1}, {rising, 39, 6},
		{wide, 1, -992_156_862_746}, {wide, 127, -3_921_568_628}, {wide, 128, 3_921_568_627}, {wide, 254, 992_156_862_745},
		// Between two points whose values fall.
		{falling, 11, 4}, {falling, 12, 2}, {falling, 14, -3}, {falling, 15, -5},
		{around, 0xFF, 10}, {around, 0, 0}, {around, 1, -10},
		// The product is divided before the value of the first point is added.
		{table(api.Point{Raw: 0, Value: -1}, api.Point{Raw: 3, Value: 0}), 1, -1},
		{table(api.Point{Raw: 0, Value: -1}, api.Point{Raw: 3, Value: 0}), 2, -1},
		{table(api.Point{Raw: 0, Value: 0}, api.Point{Raw: 3, Value: -1}), 1, -1},
		{table(api.Point{Raw: 0, Value: 1}, api.Point{Raw: 3, Value: 0}), 1, 0},
		{table(api.Point{Raw: 0, Value: 1}, api.Point{Raw: 3, Value: 0}), 2, 0},
	} {
		checkKnown(t, x.c, x.raw, x.want, api.OK)
	}
}

// P4.3
func TestValuesOfTablesWithEachNumberOfPoints(t *testing.T) {
	for n := 2; n <= 12; n++ {
		for _, c := range []api.Conversion{numbered(n), signed(numbered(n))} {
			for i, p := range c.Points {
				checkKnown(t, c, p.Raw, int64(i*i*one), api.OK)
				if i > 0 {
					checkKnown(t, c, p.Raw-1, int64((i-1)*(i-1)*one+(2*i-1)*900_000), api.OK)
				}
			}
			for raw := range 256 {
				checkValue(t, c, uint8(raw))
			}
		}
	}
}

// P4.3: all pairs of numbers, with a rise and a fall that most distances do not divide.
func TestValuesBetweenAllPairsOfPoints(t *testing.T) {
	for _, s := range []bool{false, true} {
		order := byNumber(s)
		for i := 0; i < 256; i += 3 {
			for j := i + 1; j < 256; j += 5 {
				for _, v := range []int64{1000, -1000} {
					c := api.Conversion{Form: api.FormTable, Signed: s, Points: []api.Point{{Raw: order[i], Value: -v}, {Raw: order[j], Value: v + 1}}}
					checkValue(t, c, order[(i+j)/2])
					checkValue(t, c, order[min(i+1, j)])
					checkValue(t, c, order[j-1])
				}
			}
		}
	}
}

// Consequences
func TestValuesOfTableLieBetweenThoseOfPoints(t *testing.T) {
	for _, c := range few() {
		if c.Form != api.FormTable {
			continue
		}
		low, high := int64(limit), int64(-limit)
		for _, p := range c.Points {
			low, high = min(low, p.Value), max(high, p.Value)
		}
		for raw := range 256 {
			if v, e := convert.Value(c, uint8(raw)); v < low || v > high || e != api.OK {
				t.Errorf("Value of %02X by %v is %d, error %d", raw, c, v, e)
			}
		}
	}
}
