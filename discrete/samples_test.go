package discrete_test

import (
	"math"
	"math/rand"
	"slices"
	"testing"

	"baseboard/api"
	"baseboard/discrete"
	"baseboard/sensor"
)

// with returns a discrete sensor with these states.
func with(states uint16) api.Sensor {
	return api.Sensor{
		Number: 9, Type: 8, Name: "Fan 3", Entity: api.Entity{ID: 0x1D, Instance: 3}, Discrete: true,
		States: states, Assert: 0x1234 & states, Deassert: 0x4321 & states, Samples: 1,
	}
}

// analog returns an analog sensor with all thresholds.
func analog() api.Sensor {
	return api.Sensor{
		Number: 5, Type: 1, Name: "Inlet", Conversion: api.Conversion{Form: api.FormLinear, Signed: true, M: 1},
		Limits:    api.Thresholds{Mask: 0x3F, Raw: [6]uint8{20, 10, 0, 40, 50, 60}},
		HystLower: 2, HystUpper: 3, Assert: 0x3F, Deassert: 0x15, Samples: 3,
	}
}

// table returns an analog sensor with a table of points.
func table() api.Sensor {
	s := analog()
	s.Conversion = api.Conversion{Form: api.FormTable, Points: []api.Point{{Raw: 1, Value: 5}, {Raw: 9, Value: -5}}}
	s.HostOn = true
	return s
}

// masks are the states that sensors of the tests have.
var masks = []uint16{0, 1, 2, 0x4000, 0x4001, 0x00FF, 0x7F00, 0x5555, 0x2AAA, 0x1248, 0x7FFE, 0x3FFF, 0x7FFF}

// analogs returns valid sensors that are not discrete.
func analogs() []api.Sensor {
	few := analog()
	few.Limits, few.Assert, few.Deassert = api.Thresholds{Mask: 1}, 1, 0
	none := analog()
	none.Limits, none.Assert, none.Deassert, none.Samples = api.Thresholds{}, 0, 0, 1
	return []api.Sensor{analog(), table(), few, none}
}

// faults returns sensors that are not valid; most of them break one condition.
func faults() []api.Sensor {
	l := []api.Sensor{{}, {Discrete: true}, {Name: "D", Discrete: true, States: 1}, {Name: "D", States: 1, Samples: 1}}
	add := func(changes ...func(s *api.Sensor)) {
		for _, mask := range []uint16{0, 1, 0x5555, 0x7FFF} {
			for _, change := range changes {
				s := with(mask)
				change(&s)
				l = append(l, s)
			}
		}
	}
	for _, name := range []string{"", "12345678901234567", "\x1F", "a\x7F", "\xFF"} {
		add(func(s *api.Sensor) { s.Name = name })
	}
	for _, n := range []int{math.MinInt, -1, 0, 2, 3, 5, 257, math.MaxInt} {
		add(func(s *api.Sensor) { s.Samples = n })
	}
	for _, c := range []api.Conversion{{Form: 1}, {Form: -1}, {Signed: true}, {M: 1}, {B: -1}, {K1: 1}, {K2: -1}, {Points: []api.Point{{}}}, analog().Conversion} {
		add(func(s *api.Sensor) { s.Conversion = c })
	}
	for _, states := range []uint16{0x8000, 0x8001, 0xFFFF} {
		add(func(s *api.Sensor) { s.States, s.Assert, s.Deassert = states, 0, 0 })
	}
	add(
		func(s *api.Sensor) { s.Limits.Mask = 1 },
		func(s *api.Sensor) { s.Limits.Raw[5] = 1 },
		func(s *api.Sensor) { s.HystLower = 1 },
		func(s *api.Sensor) { s.HystUpper = 1 },
		func(s *api.Sensor) { s.Assert = 0x8000 },
		func(s *api.Sensor) { s.Deassert = 0x8000 },
		func(s *api.Sensor) { s.States, s.Assert, s.Deassert = 1, 2, 0 },
		func(s *api.Sensor) { s.States, s.Assert, s.Deassert = 1, 0, 2 },
	)
	for _, change := range []func(s *api.Sensor){
		func(s *api.Sensor) { s.Discrete = true },
		func(s *api.Sensor) { s.States = 1 },
		func(s *api.Sensor) { s.Name = "" },
		func(s *api.Sensor) { s.Conversion.Form = 0 },
		func(s *api.Sensor) { s.Limits.Raw[0] = 70 },
	} {
		s := analog()
		change(&s)
		l = append(l, s)
	}
	return l
}

// set is the indices of the bits of a state, as numbers are divided by 2.
func set(state uint16) map[int]bool {
	m := map[int]bool{}
	for i, n := 0, int(state); n > 0; i, n = i+1, n/2 {
		if n%2 == 1 {
			m[i] = true
		}
	}
	return m
}

// stepped is what Step returns.
type stepped struct {
	next    uint16
	changes []api.Change
	e       api.Errno
}

// wantStep is what P13.1 says.
func wantStep(s api.Sensor, state, next uint16) stepped {
	if !s.Discrete || !sensor.Valid(s) {
		return stepped{e: api.ErrInvalid}
	}
	had, has, states := set(state), set(next), set(s.States)
	x := stepped{next: next}
	for i := range 16 {
		if (had[i] || has[i]) && !states[i] {
			return stepped{e: api.ErrRange}
		}
		if had[i] != has[i] {
			x.changes = append(x.changes, api.Change{Index: i, Asserted: has[i]})
		}
	}
	return x
}

func runStep(s api.Sensor, state, next uint16) stepped {
	var x stepped
	x.next, x.changes, x.e = discrete.Step(s, state, next)
	return x
}

func equal(x, y stepped) bool {
	return x.next == y.next && x.e == y.e && slices.Equal(x.changes, y.changes)
}

func checkStep(t *testing.T, s api.Sensor, state, next uint16, want stepped) {
	t.Helper()
	if got := runStep(s, state, next); !equal(got, want) {
		t.Errorf("Step of %+v from %04X to %04X: %+v, not %+v", s, state, next, got, want)
	}
}

// applied is what Apply returns.
type applied struct {
	state uint16
	e     api.Errno
}

// wantApply is what P13.2 says.
func wantApply(state uint16, l []api.Change) applied {
	bits := set(state)
	for _, c := range l {
		switch {
		case c.Index < 0 || c.Index > 14:
			return applied{e: api.ErrRange}
		case bits[c.Index] == c.Asserted:
			return applied{e: api.ErrInvalid}
		}
		bits[c.Index] = c.Asserted
	}
	sum := 0
	for i, is := range bits {
		if is {
			sum += 1 << i
		}
	}
	return applied{state: uint16(sum)}
}

func runApply(state uint16, l []api.Change) applied {
	var x applied
	x.state, x.e = discrete.Apply(state, l)
	return x
}

func checkApply(t *testing.T, state uint16, l []api.Change, want applied) {
	t.Helper()
	if got := runApply(state, l); got != want {
		t.Errorf("Apply to %04X of %v: %04X, error %d, not %04X, error %d", state, l, got.state, got.e, want.state, want.e)
	}
}

// on and off are changes of a bit.
func on(index int) api.Change  { return api.Change{Index: index, Asserted: true} }
func off(index int) api.Change { return api.Change{Index: index} }

// drawSensor returns a sensor and two states; most of them are valid.
func drawSensor(r *rand.Rand) (api.Sensor, uint16, uint16) {
	s := with(uint16(r.Intn(0x8000)))
	state, next := uint16(r.Intn(0x10000))&s.States, uint16(r.Intn(0x10000))&s.States
	switch r.Intn(12) {
	case 0:
		l := slices.Concat(faults(), analogs())
		s = l[r.Intn(len(l))]
	case 1:
		state |= 1 << r.Intn(16)
	case 2:
		next |= 1 << r.Intn(16)
	case 3:
		state, next = uint16(r.Intn(0x10000)), uint16(r.Intn(0x10000))
	case 4:
		next = state
	}
	return s, state, next
}

// drawChanges returns changes of a state, in half of the cases with one that is an error.
func drawChanges(r *rand.Rand, state uint16) []api.Change {
	var l []api.Change
	bits := set(state)
	for range r.Intn(40) {
		i := r.Intn(15)
		bits[i] = !bits[i]
		l = append(l, api.Change{Index: i, Asserted: bits[i]})
	}
	if len(l) == 0 || r.Intn(2) == 0 {
		return l
	}
	c := &l[r.Intn(len(l))]
	switch r.Intn(3) {
	case 0:
		c.Asserted = !c.Asserted
	case 1:
		c.Index = far[r.Intn(len(far))]
	default:
		c.Index = r.Intn(18) - 1
	}
	return l
}

// far are numbers that are not indices of states; the low bits of many of them are.
var far = []int{
	-1, -2, -14, -15, -16, -17, -32, -64, -128, -256, -65536, -1 << 31, -1 << 32, math.MinInt + 1, math.MinInt,
	15, 16, 17, 30, 31, 32, 63, 64, 65, 127, 128, 255, 256, 257, 270, 65535, 65536, 65537, 1<<31 - 1, 1 << 31, 1 << 32, 1<<32 + 14, math.MaxInt - 1, math.MaxInt,
}
