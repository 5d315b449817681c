package sampling_test

import (
	"math/rand"
	"testing"

	"baseboard/api"
	"baseboard/sampling"
)

// filter returns a filter with these elements.
func filter(missing int, w ...uint8) api.Filter { return api.Filter{Window: w, Missing: missing} }

// P14.1: known steps with a sample.
func TestKnownSamples(t *testing.T) {
	for _, x := range []struct {
		samples int
		f       api.Filter
		want    []uint8
	}{
		{1, filter(0), []uint8{9}},
		{1, filter(0, 1), []uint8{9}},
		{3, filter(0), []uint8{9}},
		{3, filter(0, 1), []uint8{1, 9}},
		{3, filter(0, 1, 2), []uint8{1, 2, 9}},
		{3, filter(0, 1, 2, 3), []uint8{2, 3, 9}},
		{3, filter(0, 3, 2, 1), []uint8{2, 1, 9}},
		{3, filter(0, 9, 9, 1), []uint8{9, 1, 9}},
		{5, filter(0), []uint8{9}},
		{5, filter(0, 1, 2, 3), []uint8{1, 2, 3, 9}},
		{5, filter(0, 1, 2, 3, 4), []uint8{1, 2, 3, 4, 9}},
		{5, filter(0, 1, 2, 3, 4, 5), []uint8{2, 3, 4, 5, 9}},
		{5, filter(0, 5, 5, 3, 5, 5), []uint8{5, 3, 5, 5, 9}},
	} {
		for missing := range 3 {
			x.f.Missing = missing
			checkStep(t, with(false, x.samples), x.f, 9, true, stepped{filter(0, x.want...), api.OK})
			checkStep(t, limited(true, x.samples), x.f, 9, true, stepped{filter(0, x.want...), api.OK})
		}
	}
	for _, s := range sensors() {
		checkStep(t, s, filter(3), 9, true, stepped{filter(0, 9), api.OK})
	}
}

// P14.1: known steps without a sample.
func TestKnownMissingSamples(t *testing.T) {
	for _, s := range sensors() {
		for n := range s.Samples + 1 {
			w := window(n)
			checkStep(t, s, filter(0, w...), 0, false, stepped{filter(1, w...), api.OK})
			checkStep(t, s, filter(1, w...), 0, false, stepped{filter(2, w...), api.OK})
			checkStep(t, s, filter(2, w...), 0, false, stepped{filter(3), api.OK})
		}
		checkStep(t, s, filter(3), 0, false, stepped{filter(3), api.OK})
	}
}

// P14.1: each number of elements with each number of missing samples, with a sample and without.
func TestStepOfEachSize(t *testing.T) {
	for _, s := range sensors() {
		for n := range 12 {
			for _, missing := range counts {
				f := filter(missing, window(n)...)
				for _, raw := range []uint8{0, 1, 0x7F, 0x80, 0xFF} {
					for _, ok := range []bool{true, false} {
						if missing < 0 || missing > 3 || n > s.Samples || missing == 3 && n > 0 {
							checkStep(t, s, f, raw, ok, stepped{e: api.ErrInvalid})
						} else {
							checkStep(t, s, f, raw, ok, wantStep(s, f, raw, ok))
						}
					}
				}
			}
		}
	}
}

// P14.1: windows that are far too long.
func TestStepOfLongWindows(t *testing.T) {
	for _, s := range sensors() {
		for _, n := range []int{127, 128, 255, 256, 257, 259, 261, 65536, 65537, 1 << 20} {
			for missing := range 4 {
				checkStep(t, s, filter(missing, window(n)...), 1, true, stepped{e: api.ErrInvalid})
				checkStep(t, s, filter(missing, window(n)...), 1, false, stepped{e: api.ErrInvalid})
			}
		}
	}
}

// P14.1: each sample, and raw does not matter where it is missing.
func TestStepWithEachSample(t *testing.T) {
	for _, s := range sensors() {
		for n := range s.Samples + 1 {
			for missing := range 3 {
				f := filter(missing, window(n)...)
				without := wantStep(s, f, 0, false)
				for raw := range 256 {
					checkStep(t, s, f, uint8(raw), true, wantStep(s, f, uint8(raw), true))
					checkStep(t, s, f, uint8(raw), false, without)
				}
			}
		}
		for raw := range 256 {
			checkStep(t, s, filter(3), uint8(raw), true, stepped{filter(0, uint8(raw)), api.OK})
			checkStep(t, s, filter(3), uint8(raw), false, stepped{filter(3), api.OK})
		}
	}
}

// P14.1: each window of few elements, which are not put in order, with equal ones and others.
func TestStepOfEachWindow(t *testing.T) {
	elements := []uint8{0x00, 0x01, 0x80, 0xFF}
	for _, s := range sensors() {
		for n := range s.Samples + 1 {
			windows(n, elements, func(w []uint8) {
				for _, raw := range []uint8{0x00, 0x7F, 0x80} {
					f := filter(len(w)%3, w...)
					checkStep(t, s, f, raw, true, wantStep(s, f, raw, true))
					checkStep(t, s, f, raw, false, wantStep(s, f, raw, false))
				}
			})
		}
	}
}

// P14.1: a window of one sample is replaced, whatever it is.
func TestStepOfOneSample(t *testing.T) {
	s := with(true, 1)
	for old := range 256 {
		for raw := range 256 {
			checkStep(t, s, filter(0, uint8(old)), uint8(raw), true, stepped{filter(0, uint8(raw)), api.OK})
		}
	}
}

// P14.1: a sensor that is not valid is an error, with every filter.
func TestStepOfOtherSensors(t *testing.T) {
	for _, s := range faults() {
		for n := range 8 {
			for _, missing := range counts {
				f := filter(missing, window(n)...)
				checkStep(t, s, f, 7, true, stepped{e: api.ErrInvalid})
				checkStep(t, s, f, 7, false, stepped{e: api.ErrInvalid})
			}
		}
	}
}

// P14.1: what Step returns is a filter of the sensor again.
func TestStepsLeadToFilters(t *testing.T) {
	r := rand.New(rand.NewSource(143))
	for range 20000 {
		s := drawSensor(r)
		f := drawFilter(r, s.Samples)
		for _, ok := range []bool{true, false} {
			next, e := sampling.Step(s, f, uint8(r.Intn(256)), ok)
			if e != api.OK || !sampling.Valid(s, next) {
				t.Errorf("%+v, %v, %v: %v, error %d", s, f, ok, next, e)
			}
		}
	}
}

// history returns the filter behind all these samples (those below 0 are missing): the last ones since three in a row were missing, and how many are missing at the end.
func history(width int, samples []int) api.Filter {
	var f api.Filter
	first, row := 0, 0
	for i, x := range samples {
		if x >= 0 {
			row = 0
			continue
		}
		if row++; row >= 3 {
			first = i + 1
		}
	}
	for _, x := range samples[first:] {
		if x >= 0 {
			f.Window = append(f.Window, uint8(x))
		}
	}
	f.Window = f.Window[max(0, len(f.Window)-width):]
	for i := len(samples) - 1; i >= 0 && samples[i] < 0 && f.Missing < 3; i-- {
		f.Missing++
	}
	return f
}

// checkHistory checks each of the steps that lead from the zero value through samples.
func checkHistory(t *testing.T, s api.Sensor, samples []int) {
	t.Helper()
	var f api.Filter
	for i, x := range samples {
		next, e := sampling.Step(s, f, uint8(x), x >= 0)
		want := history(s.Samples, samples[:i+1])
		if !equal(stepped{next, e}, stepped{want, api.OK}) {
			t.Errorf("%+v, samples %v: %v, error %d, not %v", s, samples[:i+1], next, e, want)
		}
		checkReading(t, s, next, wantReading(s, want))
		f = next
	}
}

// P14.1, P14.2: all sequences of up to nine samples, with two values and missing ones.
func TestAllShortHistories(t *testing.T) {
	for _, s := range []api.Sensor{with(false, 1), with(true, 3), limited(false, 5), discrete()} {
		for first := range 19683 {
			var samples []int
			for n := first; len(samples) < 9; n /= 3 {
				samples = append(samples, []int{-1, 0x05, 0xFA}[n%3])
			}
			checkHistory(t, s, samples)
		}
	}
}

// P14.1, P14.2: long sequences, in which missing samples are rare or frequent.
func TestLongHistories(t *testing.T) {
	r := rand.New(rand.NewSource(144))
	for range 300 {
		s := drawSensor(r)
		rare := 1 + r.Intn(6)
		var samples []int
		for range 100 {
			x := r.Intn(256)
			if r.Intn(rare) == 0 {
				x = -1
			}
			samples = append(samples, x)
		}
		checkHistory(t, s, samples)
	}
}

// P14.1: drawn calls of all kinds.
func TestDrawnCalls(t *testing.T) {
	r := rand.New(rand.NewSource(145))
	count := map[string]int{}
	for _, c := range drawCalls(r, 30000) {
		check(t, c)
		switch {
		case !wantValid(c.s, c.f):
			count["invalid"]++
		case !c.ok:
			count["missing"]++
		case len(c.f.Window) == c.s.Samples:
			count["full"]++
		default:
			count["filling"]++
		}
	}
	for _, kind := range []string{"invalid", "missing", "full", "filling"} {
		if count[kind] < 3000 {
			t.Errorf("too few calls of a kind: %v", count)
		}
	}
}
