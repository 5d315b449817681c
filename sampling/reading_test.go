package sampling_test

import (
	"math/rand"
	"slices"
	"testing"

	"baseboard/api"
	"baseboard/sampling"
)

// P14.2: known windows; with a sign, the order is that of other numbers.
func TestKnownReadings(t *testing.T) {
	for _, x := range []struct {
		w                []uint8
		unsigned, signed uint8
	}{
		{[]uint8{0x00}, 0x00, 0x00}, {[]uint8{0x7F}, 0x7F, 0x7F}, {[]uint8{0x80}, 0x80, 0x80}, {[]uint8{0xFF}, 0xFF, 0xFF},
		{[]uint8{1, 2, 3}, 2, 2}, {[]uint8{3, 2, 1}, 2, 2}, {[]uint8{2, 3, 1}, 2, 2}, {[]uint8{10, 200, 12}, 12, 10}, {[]uint8{200, 12, 11}, 12, 11},
		{[]uint8{7, 7, 7}, 7, 7}, {[]uint8{7, 7, 9}, 7, 7}, {[]uint8{7, 9, 7}, 7, 7}, {[]uint8{9, 7, 7}, 7, 7}, {[]uint8{9, 7, 9}, 9, 9},
		{[]uint8{0x00, 0x7F, 0x80}, 0x7F, 0x00}, {[]uint8{0x80, 0x00, 0xFF}, 0x80, 0xFF}, {[]uint8{0xFF, 0x00, 0x01}, 0x01, 0x00},
		{[]uint8{0x80, 0x80, 0x7F}, 0x80, 0x80}, {[]uint8{0x7F, 0x80, 0x7F}, 0x7F, 0x7F}, {[]uint8{0x80, 0x81, 0xFF}, 0x81, 0x81},
		{[]uint8{1, 2, 3, 4, 5}, 3, 3}, {[]uint8{5, 1, 4, 2, 3}, 3, 3}, {[]uint8{3, 5, 5, 1, 1}, 3, 3}, {[]uint8{1, 1, 1, 9, 9}, 1, 1}, {[]uint8{9, 1, 9, 1, 9}, 9, 9},
		{[]uint8{0x7E, 0x7F, 0x80, 0x81, 0x82}, 0x80, 0x82}, {[]uint8{0xFE, 0xFF, 0x00, 0x01, 0x02}, 0x02, 0x00}, {[]uint8{0xFF, 0xFF, 0xFE, 0x00, 0x01}, 0xFE, 0xFF},
		{[]uint8{0x80, 0x7F, 0x00, 0x40, 0xC0}, 0x7F, 0x00},
	} {
		for missing := range 3 {
			f := filter(missing, x.w...)
			checkReading(t, with(false, len(x.w)), f, reading{x.unsigned, true})
			checkReading(t, with(true, len(x.w)), f, reading{x.signed, true})
			checkReading(t, limited(false, len(x.w)), f, reading{x.unsigned, true})
			checkReading(t, limited(true, len(x.w)), f, reading{x.signed, true})
		}
	}
}

// P14.2: the only sample is the reading; also of a discrete sensor, whose numbers have no sign.
func TestReadingOfOneSample(t *testing.T) {
	for _, s := range sensors() {
		if s.Samples != 1 {
			continue
		}
		for raw := range 256 {
			for missing := range 3 {
				checkReading(t, s, filter(missing, uint8(raw)), reading{uint8(raw), true})
			}
		}
	}
}

// P14.2: three samples, each pair of raw readings with each one of the edges, in each place.
func TestReadingOfThreeSamples(t *testing.T) {
	for _, s := range []api.Sensor{with(false, 3), with(true, 3)} {
		for a := range 256 {
			for b := 0; b < 256; b += 3 {
				for i, c := range edges {
					w := slices.Insert([]uint8{uint8(a), uint8(b)}, i%3, c)
					checkReading(t, s, filter(0, w...), wantReading(s, filter(0, w...)))
				}
			}
		}
		windows(3, edges, func(w []uint8) {
			checkReading(t, s, filter(1, w...), wantReading(s, filter(1, w...)))
		})
	}
}

// P14.2: five samples, out of few ones, in every order and with equal ones.
func TestReadingOfFiveSamples(t *testing.T) {
	for _, s := range []api.Sensor{with(false, 5), with(true, 5)} {
		for _, elements := range [][]uint8{{0x00, 0x01, 0x7F, 0x80, 0x81, 0xFF}, {0x10, 0x11, 0x12, 0x13, 0x14}, {0xFD, 0xFE, 0xFF, 0x00, 0x01}} {
			windows(5, elements, func(w []uint8) {
				checkReading(t, s, filter(2, w...), wantReading(s, filter(2, w...)))
			})
		}
	}
}

// P14.2: every order of the same samples has the same reading.
func TestReadingOfEachOrder(t *testing.T) {
	r := rand.New(rand.NewSource(146))
	for range 200 {
		n := widths[1+r.Intn(2)]
		s := with(r.Intn(2) == 0, n)
		w := drawWindow(r, n)
		want := reading{middle(s.Conversion.Signed, w), true}
		places := []uint8{0, 1, 2, 3, 4}[:n]
		windows(n, places, func(order []uint8) {
			seen := map[uint8]bool{}
			f := filter(0)
			for _, place := range order {
				seen[place] = true
				f.Window = append(f.Window, w[place])
			}
			if len(seen) == n {
				checkReading(t, s, f, want)
			}
		})
	}
}

// P14.2: without s.Samples elements, or where the filter is not one of the sensor, there is no reading.
func TestNoReading(t *testing.T) {
	for _, s := range sensors() {
		for n := range 12 {
			for _, missing := range counts {
				f := filter(missing, window(n)...)
				if n == s.Samples && missing >= 0 && missing < 3 {
					checkReading(t, s, f, reading{middle(s.Conversion.Signed, f.Window), true})
				} else {
					checkReading(t, s, f, reading{})
				}
			}
		}
		for _, n := range []int{127, 128, 255, 256, 257, 259, 261, 65536, 65537, 1 << 20} {
			checkReading(t, s, filter(0, window(n)...), reading{})
		}
	}
}

// P14.2: a sensor that is not valid has no reading, also where the window has s.Samples elements.
func TestNoReadingOfOtherSensors(t *testing.T) {
	for _, s := range faults() {
		for n := range 8 {
			for _, missing := range counts {
				checkReading(t, s, filter(missing, window(n)...), reading{})
			}
		}
		if s.Samples > 7 && s.Samples < 1000 {
			checkReading(t, s, filter(0, window(s.Samples)...), reading{})
		}
	}
}

// P14.2: numbers are put in order, not values; the values of these sensors fall, or rise and fall, with the numbers.
func TestReadingIsNotOfValues(t *testing.T) {
	for _, x := range []struct {
		c    api.Conversion
		w    []uint8
		want uint8
	}{
		{api.Conversion{Form: api.FormLinear, M: -1}, []uint8{1, 2, 3}, 2},
		{api.Conversion{Form: api.FormLinear, M: 0, B: 4}, []uint8{3, 1, 2}, 2},
		{api.Conversion{Form: api.FormSquare, Signed: true, M: 1}, []uint8{0xF0, 1, 2}, 1},
		{api.Conversion{Form: api.FormSquare, M: 1, B: -10}, []uint8{1, 8, 11}, 8},
		{api.Conversion{Form: api.FormReciprocal, Signed: true, M: 1}, []uint8{0xFF, 1, 2}, 1},
		{api.Conversion{Form: api.FormReciprocal, Signed: true, M: 1}, []uint8{0xFF, 0, 2}, 0},
		{api.Conversion{Form: api.FormRoot, M: 1, B: -10}, []uint8{1, 2, 200}, 2},
		{api.Conversion{Form: api.FormTable, Points: []api.Point{{Raw: 10, Value: 0}, {Raw: 20, Value: 9}, {Raw: 30, Value: 5}}}, []uint8{10, 20, 30}, 20},
	} {
		s := with(false, 3)
		s.Conversion = x.c
		windows(3, []uint8{0, 1, 2}, func(order []uint8) {
			if order[0] != order[1] && order[1] != order[2] && order[2] != order[0] {
				checkReading(t, s, filter(0, x.w[order[0]], x.w[order[1]], x.w[order[2]]), reading{x.want, true})
			}
		})
	}
}

// P14.2: what else a sensor has does not matter.
func TestReadingWithOtherFields(t *testing.T) {
	r := rand.New(rand.NewSource(147))
	for range 10000 {
		s := drawSensor(r)
		f := filter(r.Intn(3), drawWindow(r, s.Samples)...)
		checkReading(t, s, f, runReading(with(s.Conversion.Signed, s.Samples), f))
		checkReading(t, s, f, wantReading(s, f))
	}
}

// Section Examples.
func TestExample(t *testing.T) {
	s := with(false, 3)
	var f api.Filter
	var e api.Errno
	for _, raw := range []uint8{10, 200, 12} {
		if got, ok := sampling.Reading(s, f); got != 0 || ok {
			t.Errorf("%v: %d, %v", f, got, ok)
		}
		if f, e = sampling.Step(s, f, raw, true); e != api.OK {
			t.Errorf("%d: error %d", raw, e)
		}
	}
	if got, ok := sampling.Reading(s, f); got != 12 || !ok {
		t.Errorf("%v: %d, %v", f, got, ok)
	}
	if f, e = sampling.Step(s, f, 11, true); e != api.OK {
		t.Errorf("error %d", e)
	}
	if got, ok := sampling.Reading(s, f); got != 12 || !ok {
		t.Errorf("%v: %d, %v", f, got, ok)
	}
}
