package sensor_test

import (
	"testing"

	"baseboard/api"
	"baseboard/sensor"
)

// thresholds returns an analog sensor with these thresholds; those that are negative are not there, and the others are numbers.
func thresholds(signed bool, numbers ...int) api.Sensor {
	s := analog()
	s.Conversion.Signed = signed
	s.Limits = api.Thresholds{}
	for i, n := range numbers {
		if n != absent {
			s.Limits.Mask |= 1 << i
			s.Limits.Raw[i] = uint8(n)
		}
	}
	s.Assert, s.Deassert = 0, 0
	return s
}

const absent = 1000

// P10.1
func TestOrderOfKnownThresholds(t *testing.T) {
	const no = absent
	for _, x := range []struct {
		signed  bool
		numbers []int
		want    bool
	}{
		{false, []int{no, no, no, no, no, no}, true},
		{false, []int{30, 20, 10, 80, 90, 100}, true},
		{false, []int{30, 30, 30, 31, 31, 31}, true},
		{false, []int{30, 30, 10, 80, 80, 100}, true},
		{false, []int{30, 10, 10, 80, 100, 100}, true},
		{false, []int{30, 30, 30, 30, 31, 31}, false},
		{false, []int{30, 29, 28, 30, 31, 32}, false},
		{false, []int{30, no, no, 31, no, no}, true},
		{false, []int{no, no, 30, no, no, 31}, true},
		{false, []int{no, no, 30, no, no, 30}, false},
		{false, []int{no, 30, no, no, 30, no}, false},
		{false, []int{10, 20, no, no, no, no}, false},
		{false, []int{no, 10, 20, no, no, no}, false},
		{false, []int{10, no, 20, no, no, no}, false},
		{false, []int{10, no, 10, no, no, no}, true},
		{false, []int{no, no, no, 20, 10, no}, false},
		{false, []int{no, no, no, no, 20, 10}, false},
		{false, []int{no, no, no, 20, no, 10}, false},
		{false, []int{no, no, no, 20, no, 20}, true},
		{false, []int{40, 20, no, 30, no, 50}, false},
		{false, []int{0, 0, 0, 255, 255, 255}, true},
		{false, []int{255, no, no, no, no, 0}, false},
		{false, []int{127, 0, no, 128, 255, no}, true},
		{true, []int{127, 0, no, -128, -1, no}, false},
		{true, []int{-1, -1, -128, 0, 0, 127}, true},
		{true, []int{-1, -2, -3, -1, 0, 1}, false},
		{true, []int{-128, no, no, no, no, 127}, true},
		{true, []int{127, no, no, no, no, -128}, false},
		{true, []int{no, -1, no, 0, no, no}, true},
		{true, []int{no, 0, no, -1, no, no}, false},
		{true, []int{0, -1, -2, 1, 2, 3}, true},
		{false, []int{0, 255, 254, 1, 2, 3}, false},
	} {
		check(t, thresholds(x.signed, x.numbers...), x.want)
	}
}

// P10.1: each threshold is absent or has one of a few numbers, around those where the sign changes the order.
func TestOrderOfEachSubset(t *testing.T) {
	values := []int{absent, 0x00, 0x01, 0x7F, 0x80, 0xFE, 0xFF}
	counts := map[bool]int{}
	each(values, func(numbers []int) {
		for _, signed := range []bool{false, true} {
			s := thresholds(signed, numbers...)
			want := valid(s)
			counts[want]++
			if got := sensor.Valid(s); got != want {
				t.Errorf("signed %t, mask %02X, raw readings % X: Valid is %t", signed, s.Limits.Mask, s.Limits.Raw, got)
			}
		}
	})
	if counts[true] < 1000 || counts[false] < 1000 {
		t.Errorf("too few sensors of a kind: %v", counts)
	}
}

// each calls f for every choice of six of the values.
func each(values []int, f func([]int)) {
	choice := make([]int, 6)
	var choose func(i int)
	choose = func(i int) {
		if i == len(choice) {
			f(choice)
			return
		}
		for _, v := range values {
			choice[i] = v
			choose(i + 1)
		}
	}
	choose(0)
}

// P10.1: every two thresholds, at each pair of raw readings.
func TestOrderOfEachPair(t *testing.T) {
	for _, signed := range []bool{false, true} {
		for j := range 6 {
			for i := range j {
				s := thresholds(signed)
				s.Limits.Mask = 1<<i | 1<<j
				for x := range 256 {
					for y := range 256 {
						s.Limits.Raw[i], s.Limits.Raw[j] = uint8(x), uint8(y)
						a, b := numberOf(signed, uint8(x)), numberOf(signed, uint8(y))
						want := a < b
						if j < 3 {
							want = a >= b
						} else if i >= 3 {
							want = a <= b
						}
						if got := sensor.Valid(s); got != want {
							t.Errorf("signed %t, number %d at the index %d, %d at %d: Valid is %t", signed, a, i, b, j, got)
						}
					}
				}
			}
		}
	}
}

// P10.1: the sign matters for tables as for the other forms.
func TestOrderWithEachForm(t *testing.T) {
	for form := api.FormLinear; form <= api.FormTable; form++ {
		for _, signed := range []bool{false, true} {
			s := thresholds(signed, 0x10, absent, absent, 0xF0, absent, absent)
			s.Conversion = api.Conversion{Form: form}
			if form == api.FormTable {
				s.Conversion = table(1, 3)
			}
			s.Conversion.Signed = signed
			check(t, s, !signed)
			s.Limits.Raw = [6]uint8{0: 0xF0, 3: 0x10}
			check(t, s, signed)
		}
	}
}
