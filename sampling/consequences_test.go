package sampling_test

import (
	"math/rand"
	"slices"
	"testing"

	"baseboard/api"
	"baseboard/sampling"
)

// span returns the least and the greatest number of elements.
func span(signed bool, w []uint8) (int, int) {
	var numbers []int
	for _, raw := range w {
		numbers = append(numbers, number(signed, raw))
	}
	return slices.Min(numbers), slices.Max(numbers)
}

// checkWithin checks that the reading of a full window lies between elements.
func checkWithin(t *testing.T, s api.Sensor, w, elements []uint8) {
	t.Helper()
	raw, ok := sampling.Reading(s, filter(0, w...))
	least, greatest := span(s.Conversion.Signed, elements)
	if x := number(s.Conversion.Signed, raw); !ok || x < least || x > greatest {
		t.Errorf("%+v, window %v: %d, %v is not between %d and %d", s, w, x, ok, least, greatest)
	}
}

// checkOutliers checks that the reading lies between the elements of a window, and between those that are left without half of them, rounded down.
func checkOutliers(t *testing.T, s api.Sensor, w []uint8) {
	t.Helper()
	checkWithin(t, s, w, w)
	for i := range w {
		if len(w) == 1 {
			return
		}
		others := slices.Delete(slices.Clone(w), i, i+1)
		checkWithin(t, s, w, others)
		for j := range others {
			if len(w) == 5 {
				checkWithin(t, s, w, slices.Delete(slices.Clone(others), j, j+1))
			}
		}
	}
}

// Section Consequences: all windows of few elements.
func TestConsequencesOfOutliers(t *testing.T) {
	for _, signed := range []bool{false, true} {
		windows(1, edges, func(w []uint8) { checkOutliers(t, with(signed, 1), w) })
		windows(3, edges, func(w []uint8) { checkOutliers(t, with(signed, 3), w) })
		windows(5, []uint8{0x00, 0x7F, 0x80, 0xFF, 0x01}, func(w []uint8) { checkOutliers(t, with(signed, 5), w) })
	}
}

// Section Consequences: drawn sensors and windows.
func TestConsequencesOfDrawnWindows(t *testing.T) {
	r := rand.New(rand.NewSource(148))
	for range 10000 {
		s := drawSensor(r)
		checkOutliers(t, s, drawWindow(r, s.Samples))
	}
}

// Section Consequences: samples that stay within a range, with an outlier now and then, have readings within the range.
func TestConsequencesOfRareOutliers(t *testing.T) {
	r := rand.New(rand.NewSource(149))
	for range 500 {
		s := with(r.Intn(2) == 0, widths[1+r.Intn(2)])
		good := drawWindow(r, 40)
		least, greatest := span(s.Conversion.Signed, good)
		var f api.Filter
		for i, raw := range good {
			// So every window of three has one outlier, and every window of five has two.
			if i%s.Samples == 0 || s.Samples == 5 && i%5 == 1 {
				raw = uint8(r.Intn(256))
			}
			f, _ = sampling.Step(s, f, raw, true)
			x, ok := sampling.Reading(s, f)
			if n := number(s.Conversion.Signed, x); ok != (i >= s.Samples-1) || ok && (n < least || n > greatest) {
				t.Errorf("%+v, sample %d: %v has the reading %d, %v, not from %d to %d", s, i, f, n, ok, least, greatest)
			}
		}
	}
}

// Section Consequences: without missing samples there is a reading from the sample number s.Samples on, and before it there is none.
func TestConsequencesWithoutMissingSamples(t *testing.T) {
	r := rand.New(rand.NewSource(150))
	for range 2000 {
		s := drawSensor(r)
		var f api.Filter
		if r.Intn(2) == 0 {
			f.Missing = r.Intn(4)
		}
		for i := 1; i <= 20; i++ {
			f, _ = sampling.Step(s, f, uint8(r.Intn(256)), true)
			if _, ok := sampling.Reading(s, f); ok != (i >= s.Samples) {
				t.Errorf("%+v, sample number %d: %v", s, i, ok)
			}
		}
	}
}

// Section Consequences: from any filter, s.Samples samples suffice for a reading.
func TestConsequencesFromAnyFilter(t *testing.T) {
	r := rand.New(rand.NewSource(151))
	for range 5000 {
		s := drawSensor(r)
		f := drawFilter(r, s.Samples)
		before := len(f.Window)
		for i := 1; i <= s.Samples; i++ {
			f, _ = sampling.Step(s, f, uint8(r.Intn(256)), true)
			if _, ok := sampling.Reading(s, f); ok != (before+i >= s.Samples) {
				t.Errorf("%+v, %d elements, sample number %d: %v", s, before, i, ok)
			}
		}
	}
}

// Section Consequences: three missing samples in a row leave no reading, whatever came before; fewer of them change no reading.
func TestConsequencesOfMissingSamples(t *testing.T) {
	r := rand.New(rand.NewSource(152))
	lost := 0
	for range 10000 {
		s := drawSensor(r)
		f := drawFilter(r, s.Samples)
		if r.Intn(2) == 0 {
			f = filter(0, drawWindow(r, s.Samples)...)
		}
		first := f.Missing
		before := runReading(s, f)
		for i := 1; i <= 6; i++ {
			f, _ = sampling.Step(s, f, uint8(r.Intn(256)), false)
			want := before
			if first+i >= 3 {
				want = reading{}
			}
			checkReading(t, s, f, want)
			if i >= 3 && runReading(s, f).ok {
				t.Errorf("%+v: %v has a reading after %d missing samples", s, f, i)
			}
		}
		if before.ok {
			lost++
		}
	}
	if lost < 3000 {
		t.Errorf("only %d filters had a reading", lost)
	}
}

// Section Consequences: after three missing samples a reading needs s.Samples samples again, after two of them one is enough.
func TestConsequencesAfterMissingSamples(t *testing.T) {
	for _, s := range sensors() {
		for missing := range 6 {
			f := filter(0, window(s.Samples)...)
			for range missing {
				f, _ = sampling.Step(s, f, 0, false)
			}
			for i := 1; i <= s.Samples; i++ {
				f, _ = sampling.Step(s, f, 0x33, true)
				if _, ok := sampling.Reading(s, f); ok != (missing < 3 || i == s.Samples) {
					t.Errorf("%+v, %d missing, sample number %d: %v", s, missing, i, ok)
				}
			}
		}
	}
}
