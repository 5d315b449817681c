package discrete_test

import (
	"slices"
	"testing"

	"baseboard/api"
	"baseboard/discrete"
	"baseboard/sensor"
)

// P13.1: known steps.
func TestKnownSteps(t *testing.T) {
	for _, x := range []struct {
		states, state, next uint16
		changes             []api.Change
	}{
		{0x0007, 0x0005, 0x0006, []api.Change{off(0), on(1)}},
		{0x7FFF, 0x0005, 0x0006, []api.Change{off(0), on(1)}},
		{0x7FFF, 0x0006, 0x0005, []api.Change{on(0), off(1)}},
		{0x0001, 0, 1, []api.Change{on(0)}},
		{0x0001, 1, 0, []api.Change{off(0)}},
		{0x4000, 0, 0x4000, []api.Change{on(14)}},
		{0x4000, 0x4000, 0, []api.Change{off(14)}},
		{0x4001, 0x4000, 1, []api.Change{on(0), off(14)}},
		{0x0180, 0x0080, 0x0100, []api.Change{off(7), on(8)}},
		{0, 0, 0, nil},
		{0x7FFF, 0, 0, nil},
		{0x7FFF, 0x7FFF, 0x7FFF, nil},
	} {
		checkStep(t, with(x.states), x.state, x.next, stepped{x.next, x.changes, api.OK})
	}
}

// P13.1: all fifteen states change, in each of three ways.
func TestAllStatesChange(t *testing.T) {
	var ons, offs, others []api.Change
	for i := range 15 {
		ons, offs = append(ons, on(i)), append(offs, off(i))
		others = append(others, api.Change{Index: i, Asserted: i%2 == 1})
	}
	checkStep(t, with(0x7FFF), 0, 0x7FFF, stepped{0x7FFF, ons, api.OK})
	checkStep(t, with(0x7FFF), 0x7FFF, 0, stepped{0, offs, api.OK})
	checkStep(t, with(0x7FFF), 0x5555, 0x2AAA, stepped{0x2AAA, others, api.OK})
}

// P13.1: without a change, and with a change of one bit, from each state.
func TestStepsFromEachState(t *testing.T) {
	s := with(0x7FFF)
	for state := range uint16(0x8000) {
		checkStep(t, s, state, state, stepped{next: state})
		i := int(state) % 15
		next := state ^ 1<<i
		checkStep(t, s, state, next, stepped{next, []api.Change{{Index: i, Asserted: state < next}}, api.OK})
	}
}

// P13.1: all pairs of states of sensors with few of them, wherever their bits are.
func TestAllPairsOfStates(t *testing.T) {
	for _, mask := range []uint16{0x003F, 0x7E00, 0x1111, 0x4001, 0x4AA0, 0x0180, 0x0001} {
		s := with(mask)
		for state := range uint16(0x8000) {
			if state&^mask != 0 {
				continue
			}
			for next := range uint16(0x8000) {
				if next&^mask == 0 {
					checkStep(t, s, state, next, wantStep(s, state, next))
				}
			}
		}
	}
}

// P13.1: each bit in state, in next and in both, for sensors that have it and for others.
func TestBitsOutsideStates(t *testing.T) {
	for _, mask := range masks {
		s := with(mask)
		for i := range 16 {
			bit := uint16(1) << i
			for _, x := range [][2]uint16{{bit, 0}, {0, bit}, {bit, bit}, {mask | bit, mask}, {mask, mask | bit}, {mask | bit, mask | bit}} {
				if i < 15 && mask&bit != 0 {
					checkStep(t, s, x[0], x[1], wantStep(s, x[0], x[1]))
				} else {
					checkStep(t, s, x[0], x[1], stepped{e: api.ErrRange})
				}
			}
		}
	}
}

// P13.1: a sensor without states is only in the state 0.
func TestSensorWithoutStates(t *testing.T) {
	checkStep(t, with(0), 0, 0, stepped{})
	for state := 1; state < 0x10000; state++ {
		checkStep(t, with(0), uint16(state), 0, stepped{e: api.ErrRange})
		checkStep(t, with(0), 0, uint16(state), stepped{e: api.ErrRange})
		checkStep(t, with(0), uint16(state), uint16(state), stepped{e: api.ErrRange})
	}
}

// P13.1: ErrInvalid, also where the states are out of range, too.
func TestStepsOfOtherSensors(t *testing.T) {
	for _, s := range faults() {
		if sensor.Valid(s) {
			t.Errorf("%+v is valid", s)
		}
	}
	for _, s := range analogs() {
		if !sensor.Valid(s) {
			t.Errorf("%+v is not valid", s)
		}
	}
	for _, s := range slices.Concat(faults(), analogs()) {
		for _, state := range []uint16{0, 1, 2, 0x003F, 0x4000, 0x7FFF, 0x8000, 0x8001, 0xFFFF} {
			for _, next := range []uint16{0, 1, 2, 0x003F, 0x4000, 0x7FFF, 0x8000, 0x8001, 0xFFFF} {
				checkStep(t, s, state, next, stepped{e: api.ErrInvalid})
			}
		}
	}
}

// P13.1: what else a discrete sensor has does not matter.
func TestOtherFieldsDoNotMatter(t *testing.T) {
	for i, change := range []func(s *api.Sensor){
		func(s *api.Sensor) { s.Assert, s.Deassert = 0, 0 },
		func(s *api.Sensor) { s.Assert, s.Deassert = s.States, s.States },
		func(s *api.Sensor) { s.HostOn = true },
		func(s *api.Sensor) {
			s.Number, s.Type, s.Unit, s.Entity = 255, 255, 255, api.Entity{ID: 255, Instance: 255}
		},
		func(s *api.Sensor) { s.Name = "1234567890123456" },
	} {
		s := with(0x7FFF)
		change(&s)
		for _, state := range masks {
			for _, next := range masks {
				got, want := runStep(s, state, next), wantStep(with(0x7FFF), state, next)
				if !equal(got, want) {
					t.Errorf("%d: from %04X to %04X: %+v, not %+v", i, state, next, got, want)
				}
			}
		}
	}
}

// Section Examples.
func TestExample(t *testing.T) {
	next, l, e := discrete.Step(with(0x0007), 0x0005, 0x0006)
	if next != 0x0006 || len(l) != 2 || l[0] != (api.Change{Index: 0}) || l[1] != (api.Change{Index: 1, Asserted: true}) || e != api.OK {
		t.Errorf("%04X, %v, error %d", next, l, e)
	}
}
