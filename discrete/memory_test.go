package discrete_test

import (
	"math"
	"math/rand"
	"slices"
	"strings"
	"testing"

	"baseboard/api"
	"baseboard/discrete"
	"baseboard/sensor"
)

// call are the arguments of a Step and of an Apply.
type call struct {
	s           api.Sensor
	state, next uint16
	changes     []api.Change
}

func drawCalls(r *rand.Rand, n int) []call {
	var l []call
	for range n {
		var c call
		c.s, c.state, c.next = drawSensor(r)
		c.changes = drawChanges(r, c.state)
		l = append(l, c)
	}
	return l
}

func check(t *testing.T, c call) {
	t.Helper()
	checkStep(t, c.s, c.state, c.next, wantStep(c.s, c.state, c.next))
	checkApply(t, c.state, c.changes, wantApply(c.state, c.changes))
}

// P13.1: drawn calls of all kinds.
func TestDrawnCalls(t *testing.T) {
	r := rand.New(rand.NewSource(134))
	count := map[api.Errno]int{}
	for _, c := range drawCalls(r, 30000) {
		check(t, c)
		count[wantStep(c.s, c.state, c.next).e]++
	}
	if count[api.OK] < 10000 || count[api.ErrInvalid] < 1000 || count[api.ErrRange] < 2000 {
		t.Errorf("too few calls of a kind: %v", count)
	}
}

// R2: also what stands behind a list, in the same memory, stays.
func TestNoFunctionChangesItsArguments(t *testing.T) {
	r := rand.New(rand.NewSource(135))
	for _, c := range drawCalls(r, 5000) {
		changes := append(slices.Clone(c.changes), on(3), off(99))
		points := append(slices.Clone(c.s.Conversion.Points), api.Point{Raw: 9, Value: 99}, api.Point{Raw: 8, Value: 88})
		changesBefore, pointsBefore := slices.Clone(changes), slices.Clone(points)
		c.changes, c.s.Conversion.Points = changes[:len(c.changes)], points[:len(c.s.Conversion.Points)]
		runStep(c.s, c.state, c.next)
		runApply(c.state, c.changes)
		if !slices.Equal(changes, changesBefore) || !slices.Equal(points, pointsBefore) {
			t.Errorf("%v became %v, %v became %v", changesBefore, changes, pointsBefore, points)
		}
	}
}

// R2: no later call, and no change of an argument, changes what was returned.
func TestResultsStay(t *testing.T) {
	r := rand.New(rand.NewSource(136))
	var wants, results []stepped
	for _, c := range drawCalls(r, 5000) {
		wants = append(wants, wantStep(c.s, c.state, c.next))
		results = append(results, runStep(c.s, c.state, c.next))
		runApply(c.state, c.changes)
		clear(c.changes)
		clear(c.s.Conversion.Points)
	}
	for i, x := range results {
		if !equal(x, wants[i]) {
			t.Errorf("a result became %+v, not %+v", x, wants[i])
		}
	}
}

// R2: what is done with a result changes no other one.
func TestResultsAreNewEachTime(t *testing.T) {
	r := rand.New(rand.NewSource(137))
	for _, c := range drawCalls(r, 5000) {
		x, y := runStep(c.s, c.state, c.next), runStep(c.s, c.state, c.next)
		all := x.changes[:cap(x.changes)]
		for i := range all {
			all[i] = on(-1)
		}
		if want := wantStep(c.s, c.state, c.next); !equal(y, want) {
			t.Errorf("%+v, not %+v", y, want)
		}
		check(t, c)
	}
}

// R3: lists of changes, and the points that a discrete sensor has not.
func TestNilIsEmpty(t *testing.T) {
	for _, points := range [][]api.Point{nil, {}, make([]api.Point, 0, 5)} {
		s := with(0x7FFF)
		s.Conversion.Points = points
		checkStep(t, s, 1, 2, stepped{2, []api.Change{off(0), on(1)}, api.OK})
	}
	for _, l := range [][]api.Change{nil, {}, make([]api.Change, 0, 5)} {
		checkApply(t, 0x1234, l, applied{0x1234, api.OK})
	}
}

// R7: the calls in between, and the order of the calls, do not matter.
func TestResultsDependOnlyOnArguments(t *testing.T) {
	r := rand.New(rand.NewSource(138))
	calls := drawCalls(r, 5000)
	for range 3 {
		for _, i := range r.Perm(len(calls)) {
			check(t, calls[i])
		}
	}
}

// R1: any bits of any sensors.
func TestMalformedSensors(t *testing.T) {
	r := rand.New(rand.NewSource(139))
	for range 20000 {
		s, state, next := drawSensor(r)
		s.States, s.Assert, s.Deassert = uint16(r.Intn(0x10000)), uint16(r.Intn(0x10000)), uint16(r.Intn(0x10000))
		s.Conversion.M, s.Samples = r.Intn(2)*math.MinInt, 1+r.Intn(2)*math.MaxInt
		s.Name = strings.Repeat(s.Name, r.Intn(300)>>r.Intn(9))
		checkStep(t, s, state, next, wantStep(s, state, next))
	}
}

// R1, R5: lists of any numbers.
func TestMalformedChanges(t *testing.T) {
	r := rand.New(rand.NewSource(140))
	for range 20000 {
		var l []api.Change
		for range r.Intn(6) {
			l = append(l, api.Change{Index: int(r.Uint64() >> r.Intn(64)), Asserted: r.Intn(2) == 0})
		}
		state := uint16(r.Intn(0x10000))
		checkApply(t, state, l, wantApply(state, l))
	}
}

// R4: an analog sensor, and one that is not valid, with states that are out of range.
func TestTwoErrorsAtOnce(t *testing.T) {
	none := with(0)
	none.Name = ""
	for _, s := range []api.Sensor{none, analog(), {}} {
		if sensor.Valid(s) && s.Discrete {
			t.Errorf("%+v is a valid discrete sensor", s)
		}
		if next, l, e := discrete.Step(s, 0x8000, 0xFFFF); next != 0 || len(l) != 0 || e != api.ErrInvalid {
			t.Errorf("%04X, %v, error %d", next, l, e)
		}
	}
	if state, e := discrete.Apply(0x8000, []api.Change{on(15)}); state != 0 || e != api.ErrRange {
		t.Errorf("%04X, error %d", state, e)
	}
}
