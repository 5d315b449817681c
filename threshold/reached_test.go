package threshold_test

import (
	"math/rand"
	"slices"
	"testing"

	"baseboard/api"
	"baseboard/threshold"
)

// P12.3
func TestReachedOfKnownReadings(t *testing.T) {
	unsigned := with(false, hysteresis{255, 255}, 30, 20, 10, 80, 90, 100)
	signed := with(true, hysteresis{9, 0}, 0, -1, -128, 1, 2, 127)
	some := with(false, hysteresis{}, absent, 127, absent, 128, absent, 255)
	for _, x := range []struct {
		s    api.Sensor
		x    int
		want uint8
	}{
		{unsigned, 0, 0x07}, {unsigned, 9, 0x07}, {unsigned, 10, 0x07}, {unsigned, 11, 0x03}, {unsigned, 20, 0x03}, {unsigned, 21, 0x01},
		{unsigned, 30, 0x01}, {unsigned, 31, 0x00}, {unsigned, 79, 0x00}, {unsigned, 80, 0x08}, {unsigned, 89, 0x08}, {unsigned, 90, 0x18},
		{unsigned, 99, 0x18}, {unsigned, 100, 0x38}, {unsigned, 101, 0x38}, {unsigned, 255, 0x38},
		{signed, -128, 0x07}, {signed, -127, 0x03}, {signed, -1, 0x03}, {signed, 0, 0x01}, {signed, 1, 0x08}, {signed, 2, 0x18}, {signed, 126, 0x18}, {signed, 127, 0x38},
		{some, 0, 0x02}, {some, 127, 0x02}, {some, 128, 0x08}, {some, 254, 0x08}, {some, 255, 0x28},
		{with(false, hysteresis{}), 0, 0x00}, {with(true, hysteresis{}), -128, 0x00}, {with(false, hysteresis{255, 255}), 255, 0x00},
	} {
		checkReached(t, x.s, uint8(x.x), x.want, api.OK)
	}
}

// P12.3: each set of thresholds at each reading; the hysteresis does not matter.
func TestReachedOfEachMaskAndReading(t *testing.T) {
	for _, all := range sensors() {
		for mask := range uint8(64) {
			s := without(all, mask)
			for raw := range 256 {
				checkReached(t, s, uint8(raw), wantReached(s, uint8(raw)), api.OK)
			}
		}
	}
}

// P12.3
func TestReachedOfOtherSensors(t *testing.T) {
	for _, s := range slices.Concat(faults(), discretes()) {
		for raw := range 256 {
			checkReached(t, s, uint8(raw), 0, api.ErrInvalid)
		}
	}
}

// P12.3
func TestReachedOfDrawnSensors(t *testing.T) {
	r := rand.New(rand.NewSource(123))
	for range 20000 {
		s := draw(r)
		raw := uint8(r.Intn(256))
		checkReached(t, s, raw, wantReached(s, raw), api.OK)
	}
}

// P12.4
func TestSeverityOfKnownStates(t *testing.T) {
	for _, x := range []struct {
		state uint8
		want  int
	}{
		{0x00, 0}, {0x01, 1}, {0x02, 2}, {0x04, 3}, {0x08, 1}, {0x10, 2}, {0x20, 3}, {0x40, 0}, {0x80, 0}, {0xC0, 0},
		{0x09, 1}, {0x12, 2}, {0x24, 3}, {0x03, 2}, {0x07, 3}, {0x18, 2}, {0x38, 3}, {0x0A, 2}, {0x11, 2}, {0x21, 3}, {0x0C, 3}, {0x14, 3}, {0x22, 3}, {0x3F, 3},
		{0x49, 1}, {0x81, 1}, {0xC8, 1}, {0xD0, 2}, {0x82, 2}, {0x44, 3}, {0xA0, 3}, {0xFF, 3}, {0xDB, 2}, {0xC9, 1},
	} {
		if got := threshold.Severity(x.state); got != x.want {
			t.Errorf("Severity of %02X is %d, not %d", x.state, got, x.want)
		}
	}
}

// P12.4: the severity of a state is the greatest one of its thresholds.
func TestSeverityOfEachState(t *testing.T) {
	for state := range 256 {
		want := 0
		for i, n := range []int{1, 2, 3, 1, 2, 3} {
			if state>>i%2 == 1 {
				want = max(want, n)
			}
		}
		if got := threshold.Severity(uint8(state)); got != want {
			t.Errorf("Severity of %02X is %d, not %d", state, got, want)
		}
	}
}
