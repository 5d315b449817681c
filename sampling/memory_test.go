package sampling_test

import (
	"bytes"
	"math"
	"math/rand"
	"slices"
	"strings"
	"testing"

	"baseboard/api"
	"baseboard/sampling"
)

// R2: also what stands before and behind a window and behind points, in the same memory, stays.
func TestNoFunctionChangesItsArguments(t *testing.T) {
	r := rand.New(rand.NewSource(153))
	for _, c := range drawCalls(r, 10000) {
		array := slices.Concat([]uint8{0xA1, 0xA2}, c.f.Window, []uint8{0xB1, 0xB2, 0xB3, 0xB4, 0xB5, 0xB6, 0xB7})
		points := append(slices.Clone(c.s.Conversion.Points), api.Point{Raw: 9, Value: 99}, api.Point{Raw: 8, Value: 88})
		arrayBefore, pointsBefore := slices.Clone(array), slices.Clone(points)
		c.f.Window, c.s.Conversion.Points = array[2:2+len(c.f.Window)], points[:len(c.s.Conversion.Points)]
		check(t, c)
		if !bytes.Equal(array, arrayBefore) || !slices.Equal(points, pointsBefore) {
			t.Errorf("%v became %v, %v became %v", arrayBefore, array, pointsBefore, points)
		}
	}
}

// R2: Reading leaves each order of a window as it is.
func TestReadingLeavesTheOrder(t *testing.T) {
	for _, signed := range []bool{false, true} {
		for _, n := range widths {
			windows(n, []uint8{0x00, 0x01, 0x80, 0xFF}, func(w []uint8) {
				before := slices.Clone(w)
				f := api.Filter{Window: w}
				sampling.Valid(with(signed, n), f)
				sampling.Reading(with(signed, n), f)
				sampling.Step(with(signed, n), f, 0x55, true)
				sampling.Step(with(signed, n), f, 0x55, false)
				if !bytes.Equal(w, before) {
					t.Errorf("%v became %v", before, w)
					copy(w, before)
				}
			})
		}
	}
}

// R2: no later call, and no change of an argument, changes what was returned.
func TestResultsStay(t *testing.T) {
	r := rand.New(rand.NewSource(154))
	var wants, results []result
	for _, c := range drawCalls(r, 10000) {
		wants = append(wants, want(c))
		results = append(results, run(c))
		array := c.f.Window[:cap(c.f.Window)]
		for i := range array {
			array[i] ^= 0xFF
		}
		clear(c.s.Conversion.Points)
	}
	for i, x := range results {
		if !same(x, wants[i]) {
			t.Errorf("a result became %+v, not %+v", x, wants[i])
		}
	}
}

// R2: what is done with a result changes neither an argument nor another result.
func TestResultsAreNewEachTime(t *testing.T) {
	r := rand.New(rand.NewSource(155))
	for _, c := range drawCalls(r, 10000) {
		before := slices.Clone(c.f.Window)
		x, y := run(c), run(c)
		array := x.step.f.Window[:cap(x.step.f.Window)]
		for i := range array {
			array[i] ^= 0xFF
		}
		if !same(y, want(c)) || !bytes.Equal(c.f.Window, before) {
			t.Errorf("%+v became %+v, and the window %v became %v", want(c), y, before, c.f.Window)
		}
		check(t, c)
	}
}

// R2: two filters that follow the same one go their own ways.
func TestFiltersGoTheirOwnWays(t *testing.T) {
	r := rand.New(rand.NewSource(156))
	for range 3000 {
		s := drawSensor(r)
		f := drawFilter(r, s.Samples)
		var all, wants []stepped
		for _, ok := range []bool{true, false, true, true, false} {
			raw := uint8(r.Intn(256))
			all, wants = append(all, runStep(s, f, raw, ok)), append(wants, wantStep(s, f, raw, ok))
		}
		for i := range 10 {
			from, raw, ok := all[i%5].f, uint8(r.Intn(256)), i%3 > 0
			all, wants = append(all, runStep(s, from, raw, ok)), append(wants, wantStep(s, wants[i%5].f, raw, ok))
		}
		for i, x := range all {
			if !equal(x, wants[i]) {
				t.Errorf("%+v: step %d from %v: %v, not %v", s, i, f, x, wants[i])
			}
		}
	}
}

// R3: windows, and the points of sensors that have none.
func TestNilIsEmpty(t *testing.T) {
	for _, s := range sensors() {
		for _, points := range [][]api.Point{nil, {}, make([]api.Point, 0, 5)} {
			if len(s.Conversion.Points) == 0 {
				s.Conversion.Points = points
			}
			for _, w := range [][]uint8{nil, {}, make([]uint8, 0, 5)} {
				for _, missing := range counts {
					f := api.Filter{Window: w, Missing: missing}
					checkValid(t, s, f, missing >= 0 && missing <= 3)
					checkReading(t, s, f, reading{})
					checkStep(t, s, f, 9, true, wantStep(s, filter(missing), 9, true))
					checkStep(t, s, f, 9, false, wantStep(s, filter(missing), 9, false))
				}
			}
		}
	}
}

// R5: with an error, or without a reading, nothing else is returned.
func TestErrorsReturnNothingElse(t *testing.T) {
	r := rand.New(rand.NewSource(157))
	errors, none := 0, 0
	for _, c := range drawCalls(r, 20000) {
		if f, e := sampling.Step(c.s, c.f, c.raw, c.ok); e != api.OK {
			errors++
			if f.Window != nil || f.Missing != 0 || e != api.ErrInvalid {
				t.Errorf("%+v: %v, error %d", c, f, e)
			}
		}
		if raw, ok := sampling.Reading(c.s, c.f); !ok {
			none++
			if raw != 0 {
				t.Errorf("%+v: %d without a reading", c, raw)
			}
		}
	}
	if errors < 2000 || none < 4000 {
		t.Errorf("only %d errors, and %d filters without a reading", errors, none)
	}
}

// R7: the calls in between, and the order of the calls, do not matter.
func TestResultsDependOnlyOnArguments(t *testing.T) {
	r := rand.New(rand.NewSource(158))
	calls := drawCalls(r, 5000)
	for range 3 {
		for _, i := range r.Perm(len(calls)) {
			check(t, calls[i])
		}
	}
}

// R1: any numbers in sensors and filters.
func TestMalformedArguments(t *testing.T) {
	numbers := []int{math.MinInt, math.MinInt + 1, -1 << 32, -3, -1, 0, 1, 3, 5, 256, 1 << 32, math.MaxInt}
	r := rand.New(rand.NewSource(159))
	some := func() int { return numbers[r.Intn(len(numbers))] }
	for _, c := range drawCalls(r, 20000) {
		switch r.Intn(6) {
		case 0:
			c.s.Conversion = api.Conversion{Form: some(), M: some(), B: some(), K1: some(), K2: some(), Points: make([]api.Point, r.Intn(20))}
		case 1:
			c.s.Limits.Mask |= uint8(r.Intn(256))
		case 2:
			c.s.Name = strings.Repeat(c.s.Name, r.Intn(300))
		case 3:
			c.s.Samples, c.s.Discrete = some(), r.Intn(2) == 0
		case 4:
			c.f.Missing = int(r.Uint64() >> r.Intn(64))
		default:
			c.f = api.Filter{Window: drawWindow(r, r.Intn(600)>>r.Intn(10)), Missing: some()}
		}
		check(t, c)
	}
}
