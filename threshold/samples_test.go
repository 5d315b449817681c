package threshold_test

import (
	"math/rand"
	"slices"
	"testing"

	"baseboard/api"
	"baseboard/sensor"
	"baseboard/threshold"
)

// absent stands for the number of a threshold that a sensor has not.
const absent = 1000

// base returns an analog sensor without thresholds.
func base(signed bool) api.Sensor {
	return api.Sensor{
		Number: 5, Type: 1, Unit: 7, Name: "Inlet", Entity: api.Entity{ID: 0x37, Instance: 2},
		Conversion: api.Conversion{Form: api.FormLinear, Signed: signed, M: 1}, Samples: 3,
	}
}

// discrete returns a discrete sensor.
func discrete() api.Sensor {
	return api.Sensor{Number: 9, Type: 8, Name: "Fan 3", Discrete: true, States: 0x7FFF, Assert: 0x1234, Deassert: 0x4321, Samples: 1}
}

// with returns a sensor with these thresholds, which are numbers or absent.
func with(signed bool, h hysteresis, numbers ...int) api.Sensor {
	s := base(signed)
	s.HystLower, s.HystUpper = h.lower, h.upper
	for i, n := range numbers {
		if n != absent {
			s.Limits.Mask |= 1 << i
			s.Limits.Raw[i] = uint8(n)
		}
	}
	return s
}

// without returns a sensor that has of its thresholds only those in a mask.
func without(s api.Sensor, mask uint8) api.Sensor {
	s.Limits.Mask &= mask
	for i := range s.Limits.Raw {
		if s.Limits.Mask>>i&1 == 0 {
			s.Limits.Raw[i] = 0
		}
	}
	return s
}

// hysteresis is that of the lower and that of the upper thresholds.
type hysteresis struct{ lower, upper uint8 }

var hystereses = []hysteresis{{0, 0}, {2, 3}, {3, 2}, {0, 255}, {255, 0}, {255, 255}, {1, 128}, {127, 1}, {20, 20}}

// orders are the numbers of six thresholds; those that are signed have numbers below 0.
var orders = []struct {
	signed  bool
	numbers []int
}{
	{false, []int{30, 20, 10, 80, 90, 100}},
	{false, []int{0, 0, 0, 1, 1, 1}},
	{false, []int{254, 254, 254, 255, 255, 255}},
	{false, []int{127, 127, 0, 128, 128, 255}},
	{false, []int{20, 10, 10, 30, 40, 40}},
	{true, []int{-30, -40, -50, 30, 40, 50}},
	{true, []int{-1, -2, -3, 0, 1, 2}},
	{true, []int{-128, -128, -128, 127, 127, 127}},
	{true, []int{126, 126, 126, 127, 127, 127}},
	{true, []int{-128, -128, -128, -127, -127, -127}},
	{true, []int{0, -1, -128, 1, 2, 127}},
	{true, []int{-10, -10, -20, -5, -5, 0}},
}

// sensors returns a sensor for each of the orders with each hysteresis.
func sensors() []api.Sensor {
	var l []api.Sensor
	for _, o := range orders {
		for _, h := range hystereses {
			l = append(l, with(o.signed, h, o.numbers...))
		}
	}
	return l
}

// number is what convert.Number is to return.
func number(signed bool, raw uint8) int {
	if signed && raw >= 128 {
		return int(raw) - 256
	}
	return int(raw)
}

// bounds returns the least and the greatest number of a reading.
func bounds(signed bool) (int, int) {
	if signed {
		return -128, 127
	}
	return 0, 255
}

// readings returns the numbers of the readings at which something can happen, and those next to them, in ascending order.
func readings(s api.Sensor) []int {
	signed := s.Conversion.Signed
	least, greatest := bounds(signed)
	l := []int{least, greatest, -1, 0, 1, 127, 128}
	for i, raw := range s.Limits.Raw {
		if s.Limits.Mask>>i&1 == 0 {
			continue
		}
		t := number(signed, raw)
		for _, x := range []int{t, t + int(s.HystLower), t - int(s.HystUpper)} {
			l = append(l, x-1, x, x+1)
		}
	}
	slices.Sort(l)
	return slices.DeleteFunc(slices.Compact(l), func(x int) bool { return x < least || x > greatest })
}

// wantReached is what P12.3 says.
func wantReached(s api.Sensor, raw uint8) uint8 {
	x := number(s.Conversion.Signed, raw)
	state := 0
	for i, bit := range []int{1, 2, 4, 8, 16, 32} {
		t := number(s.Conversion.Signed, s.Limits.Raw[i])
		if int(s.Limits.Mask)&bit == 0 {
			continue
		}
		if i < 3 && x <= t || i > 2 && x >= t {
			state += bit
		}
	}
	return uint8(state)
}

// wantNext is what P12.1 says of the next state.
func wantNext(s api.Sensor, state, raw uint8) uint8 {
	x := number(s.Conversion.Signed, raw)
	next := 0
	for i, bit := range []int{1, 2, 4, 8, 16, 32} {
		t := number(s.Conversion.Signed, s.Limits.Raw[i])
		reached, left := x <= t, x > t+int(s.HystLower)
		if i > 2 {
			reached, left = x >= t, x < t-int(s.HystUpper)
		}
		if int(s.Limits.Mask)&bit == 0 {
			continue
		}
		if reached || !left && int(state)&bit != 0 {
			next += bit
		}
	}
	return uint8(next)
}

// wantChanges is what P12.2 says.
func wantChanges(state, next uint8) []api.Change {
	var l []api.Change
	for i, bit := range []uint8{1, 2, 4, 8, 16, 32} {
		was, is := state&bit == bit, next&bit == bit
		if was != is {
			l = append(l, api.Change{Index: i, Asserted: is})
		}
	}
	return l
}

// checkStep checks Step where it returns no error.
func checkStep(t *testing.T, s api.Sensor, state, raw, want uint8) {
	t.Helper()
	next, changes, e := threshold.Step(s, state, raw)
	if next != want || e != api.OK || !slices.Equal(changes, wantChanges(state, want)) {
		t.Errorf("Step of %+v, state %02X, raw reading %02X: %02X, %v, error %d, not %02X", s, state, raw, next, changes, e, want)
	}
}

// checkStepError checks Step where it returns an error.
func checkStepError(t *testing.T, s api.Sensor, state, raw uint8, want api.Errno) {
	t.Helper()
	next, changes, e := threshold.Step(s, state, raw)
	if next != 0 || len(changes) != 0 || e != want {
		t.Errorf("Step of %+v, state %02X, raw reading %02X: %02X, %v, error %d, not error %d", s, state, raw, next, changes, e, want)
	}
}

// checkReached checks Reached; with an error the state is 0.
func checkReached(t *testing.T, s api.Sensor, raw, want uint8, wantError api.Errno) {
	t.Helper()
	if state, e := threshold.Reached(s, raw); state != want || e != wantError {
		t.Errorf("Reached of %+v, raw reading %02X: %02X, error %d, not %02X, error %d", s, raw, state, e, want, wantError)
	}
}

// faults returns sensors that are not valid.
func faults() []api.Sensor {
	var l []api.Sensor
	add := func(change func(s *api.Sensor)) {
		for _, signed := range []bool{false, true} {
			s := with(signed, hysteresis{2, 3}, 30, 20, 10, 80, 90, 100)
			s.Assert, s.Deassert = 0x3F, 0x15
			change(&s)
			l = append(l, s)
		}
	}
	for _, name := range []string{"", "12345678901234567", "\x1F", "a\x7F"} {
		add(func(s *api.Sensor) { s.Name = name })
	}
	for _, n := range []int{-1, 0, 2, 4, 7} {
		add(func(s *api.Sensor) { s.Samples = n })
	}
	for _, c := range []api.Conversion{{}, {Form: -1}, {Form: 6}, {Form: 1, M: 512}, {Form: 4, K2: -4}, {Form: 5}, {Form: 5, Points: []api.Point{{}}}, {Form: 2, Points: []api.Point{{}, {Raw: 1}}}} {
		add(func(s *api.Sensor) { s.Conversion = c })
	}
	for _, mask := range []uint8{0x7F, 0xBF, 0xFF} {
		add(func(s *api.Sensor) { s.Limits.Mask = mask })
	}
	for i := range 6 {
		add(func(s *api.Sensor) {
			*s = without(*s, ^uint8(1<<i))
			s.Limits.Raw[i], s.Assert, s.Deassert = 1, 0, 0
		})
	}
	add(func(s *api.Sensor) { s.Assert |= 0x40 })
	add(func(s *api.Sensor) { s.Deassert |= 0x100 })
	add(func(s *api.Sensor) { s.States = 1 })
	add(func(s *api.Sensor) { s.Discrete = true })
	add(func(s *api.Sensor) { s.Limits.Raw = [6]uint8{30, 31, 10, 80, 90, 100} })
	add(func(s *api.Sensor) { s.Limits.Raw = [6]uint8{30, 20, 10, 80, 79, 100} })
	add(func(s *api.Sensor) { s.Limits.Raw = [6]uint8{80, 20, 10, 80, 90, 100} })
	add(func(s *api.Sensor) { s.Limits.Raw = [6]uint8{100, 20, 10, 80, 90, 100} })
	for _, change := range []func(s *api.Sensor){
		func(s *api.Sensor) { s.Name = "" },
		func(s *api.Sensor) { s.Samples = 3 },
		func(s *api.Sensor) { s.Limits.Mask = 1 },
		func(s *api.Sensor) { s.HystUpper = 1 },
		func(s *api.Sensor) { s.States = 0x8000 },
		func(s *api.Sensor) { s.Discrete = false },
	} {
		s := discrete()
		change(&s)
		l = append(l, s)
	}
	return append(l,
		api.Sensor{},
		with(false, hysteresis{}, absent, absent, 0x80, 0x7F, absent, absent),
		with(true, hysteresis{}, absent, absent, 0x7F, 0x80, absent, absent),
	)
}

// discretes returns valid discrete sensors.
func discretes() []api.Sensor {
	few := discrete()
	few.States, few.Assert, few.Deassert = 1, 1, 1
	none := discrete()
	none.States, none.Assert, none.Deassert, none.HostOn = 0, 0, 0, true
	return []api.Sensor{discrete(), few, none}
}

// drawConversion returns a valid conversion of any form.
func drawConversion(r *rand.Rand) api.Conversion {
	c := api.Conversion{Form: 1 + r.Intn(5), Signed: r.Intn(2) == 0}
	if c.Form != api.FormTable {
		c.M, c.B, c.K1, c.K2 = r.Intn(1024)-512, r.Intn(1024)-512, r.Intn(7)-3, r.Intn(7)-3
		return c
	}
	numbers := r.Perm(256)[:2+r.Intn(11)]
	slices.Sort(numbers)
	for _, n := range numbers {
		if c.Signed {
			n -= 128
		}
		c.Points = append(c.Points, api.Point{Raw: uint8(n), Value: r.Int63n(2001) - 1000})
	}
	return c
}

// draw returns a valid analog sensor; its thresholds and its hystereses are often within a few numbers.
func draw(r *rand.Rand) api.Sensor {
	for {
		s := base(false)
		s.Conversion = drawConversion(r)
		least, _ := bounds(s.Conversion.Signed)
		spread := 2 + r.Intn(255)>>r.Intn(8)
		least += r.Intn(257 - spread)
		var numbers []int
		for range 6 {
			numbers = append(numbers, least+r.Intn(spread))
		}
		slices.Sort(numbers)
		slices.Reverse(numbers[:3])
		s.Limits = without(with(false, hysteresis{}, numbers...), uint8(r.Intn(64))).Limits
		s.HystLower, s.HystUpper = uint8(r.Intn(256)>>r.Intn(9)), uint8(r.Intn(256)>>r.Intn(9))
		s.Assert, s.Deassert = uint16(r.Intn(64)&int(s.Limits.Mask)), uint16(r.Intn(64)&int(s.Limits.Mask))
		if sensor.Valid(s) {
			return s
		}
	}
}
