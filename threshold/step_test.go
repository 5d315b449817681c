package threshold_test

import (
	"math/rand"
	"slices"
	"testing"

	"baseboard/api"
	"baseboard/sensor"
	"baseboard/threshold"
)

// The sensors that the other tests use are valid, and those that are to be invalid are not.
func TestSamples(t *testing.T) {
	for _, s := range slices.Concat(sensors(), discretes()) {
		if !sensor.Valid(s) {
			t.Errorf("%+v is not valid", s)
		}
	}
	for _, s := range faults() {
		if sensor.Valid(s) {
			t.Errorf("%+v is valid", s)
		}
	}
}

// The example of the chapter.
func TestStepOfExample(t *testing.T) {
	s := with(false, hysteresis{upper: 2}, absent, absent, absent, 80, 90, absent)
	state := uint8(0)
	for _, x := range []struct {
		raw, want uint8
		changes   []api.Change
	}{
		{85, 0x08, []api.Change{{Index: 3, Asserted: true}}},
		{95, 0x18, []api.Change{{Index: 4, Asserted: true}}},
		{89, 0x18, nil},
		{88, 0x18, nil},
		{87, 0x08, []api.Change{{Index: 4}}},
	} {
		next, changes, e := threshold.Step(s, state, x.raw)
		if next != x.want || !slices.Equal(changes, x.changes) || e != api.OK {
			t.Errorf("state %02X, reading %d: %02X, %v, error %d", state, x.raw, next, changes, e)
		}
		state = next
	}
}

// P12.1: readings at a threshold and at the end of its hysteresis, with the state where it is not asserted and the one where it is.
func TestStepOfKnownReadings(t *testing.T) {
	const no = absent
	for _, x := range []struct {
		signed       bool
		lower, upper uint8
		index, at    int
		reading      int
		off, on      bool
	}{
		{false, 0, 0, 0, 30, 29, true, true},
		{false, 0, 0, 0, 30, 30, true, true},
		{false, 0, 0, 0, 30, 31, false, false},
		{false, 5, 0, 1, 30, 31, false, true},
		{false, 5, 0, 1, 30, 34, false, true},
		{false, 5, 0, 1, 30, 35, false, true},
		{false, 5, 0, 1, 30, 36, false, false},
		{false, 5, 0, 1, 30, 30, true, true},
		{false, 0, 9, 2, 30, 31, false, false},
		{false, 255, 0, 2, 1, 255, false, true},
		{false, 255, 0, 2, 0, 255, false, true},
		{false, 254, 0, 2, 0, 255, false, false},
		{false, 254, 0, 2, 0, 254, false, true},
		{false, 1, 0, 0, 255, 0, true, true},
		{false, 1, 0, 0, 255, 255, true, true},
		{false, 0, 0, 0, 0, 0, true, true},
		{false, 0, 0, 0, 0, 1, false, false},
		{false, 0, 0, 3, 80, 79, false, false},
		{false, 0, 0, 3, 80, 80, true, true},
		{false, 0, 0, 3, 80, 81, true, true},
		{false, 0, 2, 4, 80, 79, false, true},
		{false, 0, 2, 4, 80, 78, false, true},
		{false, 0, 2, 4, 80, 77, false, false},
		{false, 9, 0, 5, 80, 79, false, false},
		{false, 0, 255, 5, 254, 0, false, true},
		{false, 0, 255, 5, 255, 0, false, true},
		{false, 0, 254, 5, 255, 0, false, false},
		{false, 0, 254, 5, 255, 1, false, true},
		{false, 0, 1, 3, 0, 255, true, true},
		{false, 0, 1, 3, 0, 0, true, true},
		{false, 0, 0, 3, 255, 254, false, false},
		{true, 0, 0, 0, -1, -1, true, true},
		{true, 0, 0, 0, -1, -2, true, true},
		{true, 0, 0, 0, -1, 0, false, false},
		{true, 2, 0, 1, -1, 0, false, true},
		{true, 2, 0, 1, -1, 1, false, true},
		{true, 2, 0, 1, -1, 2, false, false},
		{true, 1, 0, 1, 0, -128, true, true},
		{true, 255, 0, 2, -128, 127, false, true},
		{true, 254, 0, 2, -128, 127, false, false},
		{true, 255, 0, 2, 127, 127, true, true},
		{true, 0, 0, 2, -128, -128, true, true},
		{true, 0, 0, 3, 1, 0, false, false},
		{true, 0, 0, 3, 0, -1, false, false},
		{true, 0, 0, 3, 0, 0, true, true},
		{true, 0, 2, 4, 0, -1, false, true},
		{true, 0, 2, 4, 0, -2, false, true},
		{true, 0, 2, 4, 0, -3, false, false},
		{true, 0, 255, 5, 127, -128, false, true},
		{true, 0, 254, 5, 127, -128, false, false},
		{true, 0, 254, 5, 127, -127, false, true},
		{true, 0, 255, 5, -128, -128, true, true},
		{true, 0, 1, 5, -128, 127, true, true},
	} {
		numbers := []int{no, no, no, no, no, no}
		numbers[x.index] = x.at
		s := with(x.signed, hysteresis{x.lower, x.upper}, numbers...)
		bit := uint8(1) << x.index
		wants := map[bool]uint8{false: 0, true: bit}
		checkStep(t, s, 0, uint8(x.reading), wants[x.off])
		checkStep(t, s, bit, uint8(x.reading), wants[x.on])
	}
}

// P12.1: every reading, with one threshold at each index; off says whether the threshold is asserted next if it is not now, on whether it stays so.
func TestStepOfOneThreshold(t *testing.T) {
	numbers := []uint8{0x00, 0x01, 0x02, 0x1E, 0x7E, 0x7F, 0x80, 0x81, 0xE2, 0xFE, 0xFF}
	distances := []uint8{0, 1, 2, 7, 126, 127, 128, 129, 253, 254, 255}
	for index := range 6 {
		bit := uint8(1) << index
		for _, signed := range []bool{false, true} {
			for _, limit := range numbers {
				for _, h := range distances {
					s := with(signed, hysteresis{h, h ^ 0x55}, absent)
					if index > 2 {
						s.HystLower, s.HystUpper = h^0x55, h
					}
					s.Limits.Mask, s.Limits.Raw[index] = bit, limit
					for raw := range 256 {
						beyond := number(signed, uint8(raw)) - number(signed, limit)
						if index > 2 {
							beyond = -beyond
						}
						off, on := uint8(0), uint8(0)
						if beyond <= 0 {
							off = bit
						}
						if beyond <= int(h) {
							on = bit
						}
						checkStep(t, s, 0, uint8(raw), off)
						checkStep(t, s, bit, uint8(raw), on)
					}
				}
			}
		}
	}
}

// P12.1, P12.2: each set of thresholds in the mask with each state of them.
func TestStepOfEachMaskAndState(t *testing.T) {
	for _, all := range sensors() {
		for mask := range uint8(64) {
			s := without(all, mask)
			xs := readings(s)
			for state := range uint8(64) {
				if state&^mask != 0 {
					continue
				}
				for _, x := range xs {
					checkStep(t, s, state, uint8(x), wantNext(s, state, uint8(x)))
				}
			}
		}
	}
}

// P12.1: without thresholds the state is 0, whatever is read.
func TestStepWithoutThresholds(t *testing.T) {
	for _, signed := range []bool{false, true} {
		for _, h := range hystereses {
			s := with(signed, h)
			for raw := range 256 {
				checkStep(t, s, 0, uint8(raw), 0)
				checkStepError(t, s, 1, uint8(raw), api.ErrRange)
			}
		}
	}
}

// P12.1: thresholds that are equal to each other change together.
func TestStepOfEqualThresholds(t *testing.T) {
	s := with(false, hysteresis{2, 3}, 30, 30, 30, 80, 80, 80)
	for _, x := range []struct{ state, raw, want uint8 }{
		{0x00, 31, 0x00}, {0x00, 30, 0x07}, {0x01, 30, 0x07}, {0x07, 32, 0x07}, {0x05, 32, 0x05}, {0x07, 33, 0x00}, {0x05, 33, 0x00},
		{0x00, 79, 0x00}, {0x00, 80, 0x38}, {0x10, 80, 0x38}, {0x38, 77, 0x38}, {0x28, 77, 0x28}, {0x38, 76, 0x00}, {0x28, 76, 0x00},
		{0x3F, 50, 0x00}, {0x3F, 30, 0x07}, {0x3F, 80, 0x38}, {0x38, 0, 0x07}, {0x07, 255, 0x38},
	} {
		checkStep(t, s, x.state, x.raw, x.want)
	}
}

// P12.1: hysteresis that reaches from one side to the other keeps both asserted.
func TestStepOfBothSides(t *testing.T) {
	s := with(true, hysteresis{10, 6}, -3, -5, absent, absent, 4, 8)
	for _, x := range []struct {
		state   uint8
		reading int
		want    uint8
	}{
		{0x33, 0, 0x13}, {0x33, 2, 0x33}, {0x33, 1, 0x13}, {0x33, 5, 0x33}, {0x33, 6, 0x31}, {0x33, 7, 0x31}, {0x33, 8, 0x30},
		{0x33, -2, 0x13}, {0x33, -3, 0x03}, {0x03, 4, 0x13}, {0x10, -2, 0x10}, {0x30, -5, 0x03}, {0x12, 0, 0x12},
	} {
		checkStep(t, s, x.state, uint8(x.reading), x.want)
	}
}

// P12.1: bits that are not in the mask are an error, wherever they are.
func TestStepOfStatesOutsideTheMask(t *testing.T) {
	for _, o := range orders {
		all := with(o.signed, hysteresis{2, 3}, o.numbers...)
		for mask := range uint8(64) {
			s := without(all, mask)
			for state := range 256 {
				for _, raw := range []uint8{0x00, 0x1E, 0x50, 0x7F, 0x80, 0xFF} {
					if uint8(state)|mask == mask {
						checkStep(t, s, uint8(state), raw, wantNext(s, uint8(state), raw))
					} else {
						checkStepError(t, s, uint8(state), raw, api.ErrRange)
					}
				}
			}
		}
	}
}

// P12.1: a sensor that is not a valid analog one is named before the state, whose bits are outside its mask here or not.
func TestStepOfOtherSensors(t *testing.T) {
	for _, s := range slices.Concat(faults(), discretes()) {
		for state := range 256 {
			for _, raw := range []uint8{0, 10, 50, 100, 127, 128, 255} {
				checkStepError(t, s, uint8(state), raw, api.ErrInvalid)
			}
		}
	}
}

// P12.2: known changes, among them those of all thresholds, and none.
func TestStepOfKnownChanges(t *testing.T) {
	s := with(false, hysteresis{2, 3}, 30, 20, 10, 80, 90, 100)
	on := func(index int) api.Change { return api.Change{Index: index, Asserted: true} }
	off := func(index int) api.Change { return api.Change{Index: index} }
	for _, x := range []struct {
		state, raw uint8
		want       []api.Change
	}{
		{0x00, 50, nil},
		{0x01, 32, nil},
		{0x38, 100, nil},
		{0x07, 0, nil},
		{0x00, 30, []api.Change{on(0)}},
		{0x00, 10, []api.Change{on(0), on(1), on(2)}},
		{0x04, 10, []api.Change{on(0), on(1)}},
		{0x00, 255, []api.Change{on(3), on(4), on(5)}},
		{0x38, 50, []api.Change{off(3), off(4), off(5)}},
		{0x38, 86, []api.Change{off(4), off(5)}},
		{0x07, 255, []api.Change{off(0), off(1), off(2), on(3), on(4), on(5)}},
		{0x38, 0, []api.Change{on(0), on(1), on(2), off(3), off(4), off(5)}},
		{0x2A, 20, []api.Change{on(0), off(3), off(5)}},
		{0x15, 95, []api.Change{off(0), off(2), on(3)}},
		{0x3F, 50, []api.Change{off(0), off(1), off(2), off(3), off(4), off(5)}},
	} {
		if _, changes, e := threshold.Step(s, x.state, x.raw); !slices.Equal(changes, x.want) || e != api.OK {
			t.Errorf("state %02X, reading %d: %v, error %d, not %v", x.state, x.raw, changes, e, x.want)
		}
	}
}

// P12.1 names of a sensor the kind, the mask, the thresholds, the hysteresis and the sign; nothing else matters.
func TestStepWithOtherFields(t *testing.T) {
	r := rand.New(rand.NewSource(121))
	for range 3000 {
		s := draw(r)
		other := base(s.Conversion.Signed)
		other.Limits, other.HystLower, other.HystUpper = s.Limits, s.HystLower, s.HystUpper
		other.Number, other.Type, other.Unit, other.HostOn, other.Samples = 0xFF, 0xFE, 0xFD, r.Intn(2) == 0, 5
		state := uint8(r.Intn(64)) & s.Limits.Mask
		for _, x := range readings(s) {
			want := wantNext(s, state, uint8(x))
			checkStep(t, s, state, uint8(x), want)
			checkStep(t, other, state, uint8(x), want)
		}
	}
}

// P12.1: each form of conversions, rising and falling; only its sign matters.
func TestStepWithEachForm(t *testing.T) {
	for form := api.FormLinear; form <= api.FormTable; form++ {
		for _, m := range []int{-512, -1, 0, 1, 511} {
			c := api.Conversion{Form: form, M: m, B: 3, K1: -1, K2: 2}
			if form == api.FormTable {
				c = api.Conversion{Form: form, Points: []api.Point{{Raw: 1, Value: int64(m)}, {Raw: 2, Value: -int64(m)}}}
			}
			s := with(false, hysteresis{2, 3}, 30, 20, 10, 180, 190, 200)
			s.Conversion = c
			checkStep(t, s, 0, 190, 0x18)
			checkStep(t, s, 0x38, 187, 0x18)
			checkStep(t, s, 0, 20, 0x03)
			checkStep(t, s, 0x07, 22, 0x03)
			s.Conversion.Signed = true
			s.Limits.Raw = [6]uint8{0xF0, 0xE0, 0xD0, 10, 20, 30}
			checkStep(t, s, 0, 190, 0x07)
			checkStep(t, s, 0x38, 187, 0x07)
			checkStep(t, s, 0, 20, 0x18)
			checkStep(t, s, 0x03, 0xF2, 0x01)
		}
	}
}

// P12.1: many sensors, states and readings.
func TestStepOfDrawnSensors(t *testing.T) {
	r := rand.New(rand.NewSource(122))
	counts := map[int]int{}
	for range 20000 {
		s := draw(r)
		state := uint8(r.Intn(256) >> r.Intn(9))
		raw := uint8(r.Intn(256))
		if state&^s.Limits.Mask != 0 {
			checkStepError(t, s, state, raw, api.ErrRange)
			state &= s.Limits.Mask
		}
		want := wantNext(s, state, raw)
		counts[len(wantChanges(state, want))]++
		checkStep(t, s, state, raw, want)
	}
	for n := range 5 {
		if counts[n] < 10 {
			t.Errorf("too few steps with %d changes: %v", n, counts)
		}
	}
}
