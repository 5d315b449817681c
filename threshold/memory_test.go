package threshold_test

import (
	"math"
	"math/rand"
	"slices"
	"strings"
	"testing"

	"baseboard/api"
	"baseboard/sensor"
	"baseboard/threshold"
)

// call are the arguments of a Step.
type call struct {
	s          api.Sensor
	state, raw uint8
}

// drawCalls returns calls with valid sensors and others, whose states are mostly valid.
func drawCalls(r *rand.Rand, n int) []call {
	others := slices.Concat(faults(), discretes())
	var l []call
	for range n {
		c := call{draw(r), 0, uint8(r.Intn(256))}
		c.state = uint8(r.Intn(256)) & c.s.Limits.Mask
		switch r.Intn(10) {
		case 0:
			c.s = others[r.Intn(len(others))]
		case 1:
			c.state = uint8(r.Intn(256))
		}
		l = append(l, c)
	}
	return l
}

// result is what Step and Reached return.
type result struct {
	next      uint8
	changes   []api.Change
	e         api.Errno
	reached   uint8
	otherwise api.Errno
}

func run(c call) result {
	var x result
	x.next, x.changes, x.e = threshold.Step(c.s, c.state, c.raw)
	x.reached, x.otherwise = threshold.Reached(c.s, c.raw)
	return x
}

// want is what the chapter says of a call.
func want(c call) result {
	switch {
	case !sensor.Valid(c.s) || c.s.Discrete:
		return result{e: api.ErrInvalid, otherwise: api.ErrInvalid}
	case c.state&^c.s.Limits.Mask != 0:
		return result{e: api.ErrRange, reached: wantReached(c.s, c.raw)}
	}
	next := wantNext(c.s, c.state, c.raw)
	return result{next: next, changes: wantChanges(c.state, next), reached: wantReached(c.s, c.raw)}
}

func equal(x, y result) bool {
	same := slices.Equal(x.changes, y.changes)
	return same && x.next == y.next && x.e == y.e && x.reached == y.reached && x.otherwise == y.otherwise
}

func check(t *testing.T, c call, got result) {
	t.Helper()
	if !equal(got, want(c)) {
		t.Errorf("%+v: %+v, not %+v", c, got, want(c))
	}
}

// R2: also the points behind those of the conversion, in the same memory, stay.
func TestNoFunctionChangesPoints(t *testing.T) {
	r := rand.New(rand.NewSource(125))
	for _, c := range drawCalls(r, 5000) {
		array := append(slices.Clone(c.s.Conversion.Points), api.Point{Raw: 9, Value: 99}, api.Point{Raw: 8, Value: 88})
		before := slices.Clone(array)
		c.s.Conversion.Points = array[:len(c.s.Conversion.Points)]
		run(c)
		if !slices.Equal(array, before) {
			t.Errorf("%v became %v", before, array)
		}
	}
}

// R2: no later call, and no change of an argument, changes what was returned.
func TestResultsStay(t *testing.T) {
	r := rand.New(rand.NewSource(126))
	calls := drawCalls(r, 5000)
	var wants, results []result
	for _, c := range calls {
		wants = append(wants, want(c))
		results = append(results, run(c))
		clear(c.s.Conversion.Points)
	}
	for i, x := range results {
		if !equal(x, wants[i]) {
			t.Errorf("a result became %+v, not %+v", x, wants[i])
		}
	}
}

// R2: what is done with a result changes no other one.
func TestResultsAreNewEachTime(t *testing.T) {
	r := rand.New(rand.NewSource(127))
	for _, c := range drawCalls(r, 5000) {
		x, y := run(c), run(c)
		all := x.changes[:cap(x.changes)]
		for i := range all {
			all[i] = api.Change{Index: -1, Asserted: true}
		}
		check(t, c, y)
		check(t, c, run(c))
	}
}

// R3
func TestNilIsEmpty(t *testing.T) {
	r := rand.New(rand.NewSource(128))
	for _, c := range drawCalls(r, 5000) {
		if len(c.s.Conversion.Points) > 0 {
			continue
		}
		wanted := want(c)
		for _, points := range [][]api.Point{nil, {}, make([]api.Point, 0, 5)} {
			c.s.Conversion.Points = points
			if got := run(c); !equal(got, wanted) {
				t.Errorf("%+v: %+v, not %+v", c, got, wanted)
			}
		}
	}
}

// R7: the calls in between, and the order of the calls, do not matter.
func TestResultsDependOnlyOnArguments(t *testing.T) {
	r := rand.New(rand.NewSource(129))
	calls := drawCalls(r, 5000)
	for range 3 {
		for _, i := range r.Perm(len(calls)) {
			check(t, calls[i], run(calls[i]))
			threshold.Severity(uint8(r.Intn(256)))
		}
	}
}

// R1
func TestMalformedSensors(t *testing.T) {
	numbers := []int{math.MinInt, math.MinInt + 1, -1 << 32, -1, 0, 1, 3, 5, 256, 1 << 32, math.MaxInt}
	r := rand.New(rand.NewSource(130))
	some := func() int { return numbers[r.Intn(len(numbers))] }
	for range 20000 {
		s := draw(r)
		switch r.Intn(6) {
		case 0:
			s.Conversion = api.Conversion{Form: some(), M: some(), B: some(), K1: some(), K2: some(), Points: make([]api.Point, r.Intn(20))}
		case 1:
			s.Limits.Mask |= uint8(r.Intn(256))
		case 2:
			for i := range s.Limits.Raw {
				s.Limits.Raw[i] = uint8(r.Intn(256))
			}
		case 3:
			s.Name = strings.Repeat(s.Name, r.Intn(300))
		case 4:
			s.Samples, s.Discrete = some(), r.Intn(2) == 0
		default:
			s.States, s.Assert, s.Deassert = uint16(some()), uint16(some()), uint16(some())
		}
		c := call{s, uint8(r.Intn(256)), uint8(r.Intn(256))}
		check(t, c, run(c))
	}
}
