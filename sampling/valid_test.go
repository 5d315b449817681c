package sampling_test

import (
	"math/rand"
	"testing"

	"baseboard/api"
	"baseboard/sampling"
	"baseboard/sensor"
)

// The sensors that the other tests use are valid, and those that are to be invalid are not.
func TestSamples(t *testing.T) {
	for _, s := range sensors() {
		if !sensor.Valid(s) {
			t.Errorf("%+v is not valid", s)
		}
	}
	for _, s := range faults() {
		if sensor.Valid(s) {
			t.Errorf("%+v is valid", s)
		}
	}
}

// P14.1: known filters of a sensor with this width.
func TestKnownFilters(t *testing.T) {
	for _, x := range []struct {
		samples, elements, missing int
		want                       bool
	}{
		{1, 0, 0, true}, {1, 1, 0, true}, {1, 2, 0, false},
		{1, 0, 1, true}, {1, 1, 2, true}, {1, 2, 2, false},
		{3, 0, 0, true}, {3, 1, 0, true}, {3, 2, 1, true}, {3, 3, 2, true}, {3, 4, 0, false}, {3, 4, 2, false},
		{5, 0, 0, true}, {5, 4, 0, true}, {5, 5, 1, true}, {5, 5, 2, true}, {5, 6, 0, false}, {5, 6, 1, false},
		{1, 0, -1, false}, {3, 0, -1, false}, {5, 0, -1, false}, {1, 1, -1, false}, {3, 3, -1, false}, {5, 2, -1, false},
		{1, 0, 2, true}, {3, 0, 2, true}, {5, 0, 2, true},
		{1, 0, 3, true}, {3, 0, 3, true}, {5, 0, 3, true},
		{1, 1, 3, false}, {3, 1, 3, false}, {3, 3, 3, false}, {5, 1, 3, false}, {5, 5, 3, false}, {5, 6, 3, false},
		{1, 0, 4, false}, {3, 0, 4, false}, {5, 0, 4, false}, {1, 1, 4, false}, {3, 2, 4, false}, {5, 5, 4, false},
	} {
		f := api.Filter{Window: window(x.elements), Missing: x.missing}
		for _, signed := range []bool{false, true} {
			checkValid(t, with(signed, x.samples), f, x.want)
			checkValid(t, limited(signed, x.samples), f, x.want)
		}
		if x.samples == 1 {
			checkValid(t, discrete(), f, x.want)
		}
	}
}

// P14.1: the zero value is a filter of every valid sensor.
func TestZeroFilter(t *testing.T) {
	for _, s := range sensors() {
		checkValid(t, s, api.Filter{}, true)
	}
	r := rand.New(rand.NewSource(141))
	for range 5000 {
		checkValid(t, drawSensor(r), api.Filter{}, true)
	}
}

// P14.1: each number of elements with each number of missing samples.
func TestValidOfEachSize(t *testing.T) {
	for _, s := range sensors() {
		for n := range 20 {
			for _, missing := range counts {
				want := missing >= 0 && missing <= 2 && n <= s.Samples || missing == 3 && n == 0
				checkValid(t, s, api.Filter{Window: window(n), Missing: missing}, want)
			}
		}
		for _, n := range []int{127, 128, 255, 256, 257, 259, 261, 65536, 65537, 1 << 20} {
			for missing := range 4 {
				checkValid(t, s, api.Filter{Window: window(n), Missing: missing}, false)
			}
		}
	}
}

// P14.1: the elements do not matter.
func TestValidWithEachElement(t *testing.T) {
	for _, s := range sensors() {
		for raw := range 256 {
			for at := range s.Samples {
				w := window(s.Samples)
				w[at] = uint8(raw)
				for missing := range 4 {
					checkValid(t, s, api.Filter{Window: w, Missing: missing}, missing < 3)
				}
			}
		}
	}
}

// P14.1: a sensor that is not valid has no filters, not even the zero value.
func TestValidOfOtherSensors(t *testing.T) {
	for _, s := range faults() {
		for n := range 8 {
			for _, missing := range counts {
				checkValid(t, s, api.Filter{Window: window(n), Missing: missing}, false)
			}
		}
	}
}

// P14.1: what Valid says of a filter is what Step says of it.
func TestValidAndStepAgree(t *testing.T) {
	r := rand.New(rand.NewSource(142))
	valid, others := 0, 0
	for _, c := range drawCalls(r, 20000) {
		_, e := sampling.Step(c.s, c.f, c.raw, c.ok)
		if sampling.Valid(c.s, c.f) {
			valid++
		} else {
			others++
		}
		if sampling.Valid(c.s, c.f) != (e == api.OK) {
			t.Errorf("%+v: error %d", c, e)
		}
	}
	if valid < 10000 || others < 2000 {
		t.Errorf("too few filters of a kind: %d valid ones, %d others", valid, others)
	}
}
