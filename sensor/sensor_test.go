package sensor_test

import (
	"math/rand"
	"slices"
	"strings"
	"testing"

	"baseboard/api"
	"baseboard/sensor"
)

// check checks Valid and Encode.
func check(t *testing.T, s api.Sensor, want bool) {
	t.Helper()
	if got := sensor.Valid(s); got != want {
		t.Errorf("Valid of %+v is %t", s, got)
	}
	if want {
		checkEncode(t, s, encoded(s), api.OK)
	} else {
		checkEncode(t, s, nil, api.ErrInvalid)
	}
}

// P10.1
func TestValidOfKnownSensors(t *testing.T) {
	check(t, analog(), true)
	check(t, discrete(), true)
	check(t, api.Sensor{}, false)
	for _, x := range known {
		check(t, x.s, true)
	}
	for _, s := range samples() {
		check(t, s, true)
	}
}

// P10.1: the table of faults contains every condition, and each of its sensors breaks only one.
func TestValidOfSensorsThatBreakOneCondition(t *testing.T) {
	for _, x := range faults() {
		if l := broken(x.s); !slices.Equal(l, []string{x.condition}) {
			t.Errorf("%+v breaks %v, not only %s", x.s, l, x.condition)
		}
		check(t, x.s, false)
	}
}

// P10.1
func TestValidOfEachLengthOfNames(t *testing.T) {
	for _, s := range []api.Sensor{analog(), discrete()} {
		for n := range 600 {
			s.Name = strings.Repeat("a", n)
			check(t, s, n >= 1 && n <= 16)
		}
		s.Name = strings.Repeat("a", 1<<20)
		check(t, s, false)
	}
}

// P10.1: each byte at each place of names of each length.
func TestValidOfEachCharacterOfNames(t *testing.T) {
	for _, s := range []api.Sensor{analog(), discrete()} {
		for n := 1; n <= api.MaxName; n++ {
			for i := range n {
				name := []byte(strings.Repeat("a", n))
				for x := range 256 {
					name[i] = byte(x)
					s.Name = string(name)
					check(t, s, x >= 0x20 && x <= 0x7E)
				}
			}
		}
	}
}

// P10.1
func TestValidOfEachNumberOfSamples(t *testing.T) {
	for n := -300; n <= 300; n++ {
		s := analog()
		s.Samples = n
		check(t, s, n == 1 || n == 3 || n == 5)
		s = discrete()
		s.Samples = n
		check(t, s, n == 1)
	}
}

// P10.1
func TestValidWithArbitraryFields(t *testing.T) {
	for x := range 256 {
		v := uint8(x)
		for _, s := range []api.Sensor{analog(), discrete()} {
			for _, change := range []func(s *api.Sensor){
				func(s *api.Sensor) { s.Number = v },
				func(s *api.Sensor) { s.Type = v },
				func(s *api.Sensor) { s.Unit = v },
				func(s *api.Sensor) { s.Entity.ID = v },
				func(s *api.Sensor) { s.Entity.Instance = v },
				func(s *api.Sensor) { s.HostOn = x%2 == 0 },
				func(s *api.Sensor) { s.Number, s.Type, s.Unit, s.Entity = v, v, v, api.Entity{ID: v, Instance: v} },
			} {
				check(t, changed(s, change), true)
			}
		}
		s := analog()
		s.HystLower = v
		check(t, s, true)
		s.HystUpper = v
		check(t, s, true)
		s.HystLower = 0
		check(t, s, true)
	}
}

// P10.1: each mask, where the thresholds in it have raw readings, and where one of them has none.
func TestValidOfEachMask(t *testing.T) {
	raw := [6]uint8{30, 20, 10, 80, 90, 100}
	for mask := range 256 {
		s := analog()
		s.Assert, s.Deassert = 0, 0
		s.Limits = api.Thresholds{Mask: uint8(mask)}
		for i := range 6 {
			if mask>>i&1 == 1 {
				s.Limits.Raw[i] = raw[i]
			}
		}
		check(t, s, mask <= 0x3F)
		for i := range 6 {
			other := s
			other.Limits.Raw[i] ^= 1
			check(t, other, mask <= 0x3F && mask>>i&1 == 1)
		}
	}
}

// P10.1: each bit of Assert and Deassert with each mask.
func TestValidOfEachChangeOfAnalogSensors(t *testing.T) {
	for mask := range 64 {
		s := analog()
		s.Limits.Mask = uint8(mask)
		for i := range 6 {
			if mask>>i&1 == 0 {
				s.Limits.Raw[i] = 0
			}
		}
		for bit := range 16 {
			s.Assert, s.Deassert = 1<<bit, 0
			check(t, s, mask>>bit&1 == 1)
			s.Assert, s.Deassert = 0, 1<<bit
			check(t, s, mask>>bit&1 == 1)
			s.Assert, s.Deassert = uint16(mask)|1<<bit, uint16(mask)
			check(t, s, mask>>bit&1 == 1)
			s.Assert, s.Deassert = uint16(mask), uint16(mask)|1<<bit
			check(t, s, mask>>bit&1 == 1)
		}
		s.Assert, s.Deassert = 0, 0
		check(t, s, true)
	}
}

// P10.1: each value of States.
func TestValidOfEachStates(t *testing.T) {
	for v := range 1 << 16 {
		s := discrete()
		s.States, s.Assert, s.Deassert = uint16(v), 0, 0
		check(t, s, v < 1<<15)
		s = analog()
		s.States = uint16(v)
		if got := sensor.Valid(s); got != (v == 0) {
			t.Errorf("an analog sensor with the states %04X: Valid is %t", v, got)
		}
	}
}

// P10.1: each bit of Assert and Deassert with states that have it, and that do not.
func TestValidOfEachChangeOfDiscreteSensors(t *testing.T) {
	for _, states := range []uint16{0, 1, 0x5555, 0x2AAA, 0x4000, 0x3FFF, 0x7FFE, 0x7FFF} {
		s := discrete()
		s.States = states
		for bit := range 16 {
			want := states>>bit&1 == 1
			s.Assert, s.Deassert = 1<<bit, 0
			check(t, s, want)
			s.Assert, s.Deassert = 0, 1<<bit
			check(t, s, want)
			s.Assert, s.Deassert = states|1<<bit, states
			check(t, s, want)
			s.Assert, s.Deassert = states, states|1<<bit
			check(t, s, want)
		}
	}
}

// P10.1: what is valid for one kind of sensors is not valid for the other one.
func TestValidAfterAChangeOfTheKind(t *testing.T) {
	for _, s := range samples() {
		s.Discrete = !s.Discrete
		check(t, s, false)
	}
}

// P10.1: many sensors with any number of faults.
func TestValidOfDrawnSensors(t *testing.T) {
	r := rand.New(rand.NewSource(102))
	all := faults()
	counts := map[int]int{}
	for range 30000 {
		s := drawDiscrete(r)
		if r.Intn(2) == 0 {
			s = drawAnalog(r)
		}
		for range r.Intn(3) {
			spoil(r, &s, all[r.Intn(len(all))].s)
		}
		counts[min(len(broken(s)), 2)]++
		check(t, s, valid(s))
	}
	for n := range 3 {
		if counts[n] < 1000 {
			t.Errorf("too few sensors of a kind: %v", counts)
		}
	}
}

// spoil takes a field over from another sensor.
func spoil(r *rand.Rand, s *api.Sensor, from api.Sensor) {
	switch r.Intn(9) {
	case 0:
		s.Name = from.Name
	case 1:
		s.Samples = from.Samples
	case 2:
		s.Conversion = from.Conversion
	case 3:
		s.Limits = from.Limits
	case 4:
		s.States = from.States
	case 5:
		s.Assert = from.Assert
	case 6:
		s.Deassert = from.Deassert
	case 7:
		s.Discrete = from.Discrete
	default:
		s.HystLower, s.HystUpper = from.HystLower, from.HystUpper
	}
}
