package threshold_test

import (
	"math/rand"
	"testing"

	"baseboard/api"
	"baseboard/threshold"
)

// walk is a sensor on its way through readings.
type walk struct {
	t       *testing.T
	s       api.Sensor
	state   uint8
	fromOff bool   // the walk began with the state 0
	changed [6]int // the number of the reading at the last change of each threshold, or absent
}

func begin(t *testing.T, s api.Sensor, state uint8) *walk {
	w := &walk{t: t, s: s, state: state, fromOff: state == 0}
	for i := range w.changed {
		w.changed[i] = absent
	}
	return w
}

// step goes to a reading and checks every consequence there.
func (w *walk) step(x int) {
	next, changes, e := threshold.Step(w.s, w.state, uint8(x))
	if e != api.OK {
		w.t.Errorf("%+v, state %02X, number %d: error %d", w.s, w.state, x, e)
	}
	again, more, e := threshold.Step(w.s, next, uint8(x))
	if again != next || len(more) != 0 || e != api.OK {
		w.t.Errorf("%+v, state %02X, number %d: a second Step leads to %02X, %v, error %d", w.s, next, x, again, more, e)
	}
	if w.s.HystLower == 0 && w.s.HystUpper == 0 {
		checkReached(w.t, w.s, uint8(x), next, api.OK)
	}
	w.state = next
	w.move(x, changes)
	if w.fromOff {
		w.checkSides(x)
		w.checkOrder(x)
	}
}

// move checks that a threshold changes only after a movement by more than the hysteresis.
func (w *walk) move(x int, changes []api.Change) {
	for _, c := range changes {
		last, h := w.changed[c.Index], int(w.s.HystLower)
		if c.Index > 2 {
			h = int(w.s.HystUpper)
		}
		if last != absent && x-last <= h && last-x <= h {
			w.t.Errorf("%+v: the threshold %d changes at %d and at %d", w.s, c.Index, last, x)
		}
		w.changed[c.Index] = x
	}
}

// checkSides checks that lower and upper thresholds are asserted together only where hysteresis reaches from one to the other.
func (w *walk) checkSides(x int) {
	for i := range 3 {
		for j := 3; j < 6; j++ {
			if w.has(i) && w.has(j) && !reaches(w.s, i, j) {
				w.t.Errorf("%+v, number %d: the thresholds %d and %d are asserted together", w.s, x, i, j)
			}
		}
	}
}

func reaches(s api.Sensor, lower, upper int) bool {
	distance := number(s.Conversion.Signed, s.Limits.Raw[upper]) - number(s.Conversion.Signed, s.Limits.Raw[lower])
	return distance <= int(s.HystLower) || distance <= int(s.HystUpper)
}

// checkOrder checks that the less severe thresholds of an asserted one are asserted too.
func (w *walk) checkOrder(x int) {
	for _, first := range []int{0, 3} {
		for i := first; i < first+3; i++ {
			for less := first; less < i; less++ {
				if w.has(i) && !w.has(less) && w.s.Limits.Mask>>less&1 == 1 {
					w.t.Errorf("%+v, number %d: the threshold %d is asserted without %d", w.s, x, i, less)
				}
			}
		}
	}
}

func (w *walk) has(index int) bool { return w.state>>index&1 == 1 }

// Section Consequences: all sequences of four readings, out of those at which something can happen and those next to them.
func TestConsequencesOfShortWalks(t *testing.T) {
	for _, h := range []hysteresis{{0, 0}, {1, 2}, {4, 0}, {0, 9}, {6, 6}, {255, 255}} {
		for _, s := range []api.Sensor{
			with(false, h, 6, 3, 3, 9, absent, 12),
			with(true, h, -2, absent, -5, 2, 2, 6),
			with(true, h, absent, -1, absent, absent, 0, absent),
		} {
			visit(*begin(t, s, 0), readings(s), 4)
		}
	}
}

// visit goes on along each sequence of n readings.
func visit(w walk, xs []int, n int) {
	if n == 0 {
		return
	}
	for _, x := range xs {
		next := w
		next.step(x)
		visit(next, xs, n-1)
	}
}

// Section Consequences: long walks of three kinds, from the state 0 and from others.
func TestConsequencesOfLongWalks(t *testing.T) {
	r := rand.New(rand.NewSource(124))
	together, changes, fromOn := 0, 0, 0
	for i := range 4000 {
		s := draw(r)
		state := uint8(0)
		if i%4 == 0 {
			state = uint8(r.Intn(64)) & s.Limits.Mask
		}
		w := begin(t, s, state)
		if !w.fromOff {
			fromOn++
		}
		for _, x := range drawReadings(r, s, i%3) {
			before := w.state
			w.step(x)
			if w.state != before {
				changes++
			}
			if w.state&0x07 != 0 && w.state&0x38 != 0 {
				together++
			}
		}
	}
	if together < 1000 || changes < 10000 || fromOn < 500 {
		t.Errorf("too few walks of a kind: %d times both sides, %d changes, %d walks from another state", together, changes, fromOn)
	}
}

// drawReadings returns the numbers of readings: any ones, ones at which something can happen, or ones that are close to each other.
func drawReadings(r *rand.Rand, s api.Sensor, kind int) []int {
	least, greatest := bounds(s.Conversion.Signed)
	known := readings(s)
	x := known[r.Intn(len(known))]
	var l []int
	for range 100 {
		switch kind {
		case 0:
			x = least + r.Intn(256)
		case 1:
			x = known[r.Intn(len(known))]
		default:
			x = min(max(x+r.Intn(7)-3, least), greatest)
		}
		l = append(l, x)
	}
	return l
}

// Section Consequences: through all readings, up and down, and back and forth with each width.
func TestConsequencesOfSweeps(t *testing.T) {
	for _, s := range sensors() {
		least, greatest := bounds(s.Conversion.Signed)
		for _, start := range []uint8{0, 0x3F} {
			w := begin(t, s, start)
			for x := least; x <= greatest; x++ {
				w.step(x)
			}
			for x := greatest; x >= least; x-- {
				w.step(x)
			}
			for width := range 256 {
				w.step(least + width)
				w.step(least)
				w.step(greatest - width)
				w.step(greatest)
			}
		}
	}
}

// Section Consequences: without hysteresis the next state is Reached, whatever the state was.
func TestConsequencesWithoutHysteresis(t *testing.T) {
	for _, o := range orders {
		for mask := range uint8(64) {
			s := without(with(o.signed, hysteresis{}, o.numbers...), mask)
			for _, x := range readings(s) {
				want, e := threshold.Reached(s, uint8(x))
				if e != api.OK {
					t.Errorf("%+v, number %d: error %d", s, x, e)
				}
				for state := range uint8(64) {
					if state&^mask == 0 {
						checkStep(t, s, state, uint8(x), want)
					}
				}
			}
		}
	}
}

// Section Consequences: at the least hysteresis that reaches from one side to the other both are asserted, below it they are not.
func TestHysteresisThatReaches(t *testing.T) {
	for _, x := range []struct {
		h        hysteresis
		readings []int
		want     uint8
	}{
		{hysteresis{9, 0}, []int{-5, 5}, 0x08},
		{hysteresis{10, 0}, []int{-5, 5}, 0x09},
		{hysteresis{10, 0}, []int{5, -5}, 0x01},
		{hysteresis{0, 9}, []int{5, -5}, 0x01},
		{hysteresis{0, 10}, []int{5, -5}, 0x09},
		{hysteresis{0, 10}, []int{-5, 5}, 0x08},
		{hysteresis{9, 9}, []int{5, -5, 5, -5}, 0x01},
		{hysteresis{10, 10}, []int{5, -5, 5, -5}, 0x09},
	} {
		s := with(true, x.h, -5, absent, absent, 5, absent, absent)
		w := begin(t, s, 0)
		for _, n := range x.readings {
			w.step(n)
		}
		if w.state != x.want {
			t.Errorf("hysteresis %v, numbers %v: %02X, not %02X", x.h, x.readings, w.state, x.want)
		}
	}
}
