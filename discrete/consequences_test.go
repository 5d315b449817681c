package discrete_test

import (
	"math/bits"
	"math/rand"
	"slices"
	"testing"

	"baseboard/api"
	"baseboard/discrete"
	"baseboard/threshold"
)

// checkThere checks the section Consequences for one step of a discrete sensor.
func checkThere(t *testing.T, s api.Sensor, state, next uint16) {
	t.Helper()
	got, l, e := discrete.Step(s, state, next)
	if got != next || e != api.OK || len(l) != bits.OnesCount16(state^next) {
		t.Errorf("%+v, from %04X to %04X: %04X, %v, error %d", s, state, next, got, l, e)
	}
	checkApply(t, state, l, applied{next, api.OK})
}

// Section Consequences: all pairs of the states of 9 bits, at each place.
func TestConsequencesOfSteps(t *testing.T) {
	for shift := range 7 {
		s := with(0x01FF << shift)
		for state := range uint16(0x200) {
			for next := range uint16(0x200) {
				checkThere(t, s, state<<shift, next<<shift)
			}
		}
	}
}

// Section Consequences: each state, to and from others.
func TestConsequencesAtEachState(t *testing.T) {
	s := with(0x7FFF)
	for state := range uint16(0x8000) {
		for _, other := range masks {
			checkThere(t, s, state, other)
			checkThere(t, s, other, state)
		}
	}
}

// Section Consequences: the changes of all steps of a walk together lead from its beginning to its end.
func TestConsequencesOfWalks(t *testing.T) {
	r := rand.New(rand.NewSource(132))
	for range 2000 {
		s := with(uint16(r.Intn(0x8000)))
		start := uint16(r.Intn(0x8000)) & s.States
		state := start
		var all []api.Change
		for range 20 {
			next := uint16(r.Intn(0x8000)) & s.States
			checkThere(t, s, state, next)
			_, l, _ := discrete.Step(s, state, next)
			all = append(all, l...)
			state = next
		}
		checkApply(t, start, all, applied{state, api.OK})
	}
}

// Section Consequences: what is applied backwards, each change undone, leads back.
func TestConsequencesBackwards(t *testing.T) {
	r := rand.New(rand.NewSource(133))
	for range 5000 {
		state, next := uint16(r.Intn(0x8000)), uint16(r.Intn(0x8000))
		_, l, _ := discrete.Step(with(0x7FFF), state, next)
		slices.Reverse(l)
		for i := range l {
			l[i].Asserted = !l[i].Asserted
		}
		checkApply(t, next, l, applied{state, api.OK})
	}
}

// thresholds returns analog sensors with few and many thresholds and hystereses.
func thresholds() []api.Sensor {
	var l []api.Sensor
	for _, signed := range []bool{false, true} {
		for mask := range uint8(64) {
			for _, h := range []uint8{0, 3, 9, 255} {
				s := analog()
				s.Conversion.Signed = signed
				s.Limits.Mask, s.Assert, s.Deassert, s.HystLower, s.HystUpper = mask, 0, 0, h, h/2
				for i := range s.Limits.Raw {
					if mask>>i&1 == 0 {
						s.Limits.Raw[i] = 0
					}
				}
				l = append(l, s)
			}
		}
	}
	return l
}

// Section Consequences: the changes of threshold.Step, from each state of each sensor at readings around the thresholds.
func TestConsequencesOfThresholds(t *testing.T) {
	steps, changes, several := 0, 0, 0
	for _, s := range thresholds() {
		for state := range uint8(64) {
			if state&^s.Limits.Mask != 0 {
				continue
			}
			for raw := 0; raw < 256; raw += 5 {
				next, l, e := threshold.Step(s, state, uint8(raw))
				if e != api.OK || len(l) != bits.OnesCount8(state^next) {
					t.Errorf("%+v, state %02X, raw reading %02X: %02X, %v, error %d", s, state, raw, next, l, e)
				}
				checkApply(t, uint16(state), l, applied{uint16(next), api.OK})
				steps++
				changes += len(l)
				if len(l) > 1 {
					several++
				}
			}
		}
	}
	if steps < 100000 || changes < 100000 || several < 30000 {
		t.Errorf("too few steps: %d with %d changes, %d with several", steps, changes, several)
	}
}
