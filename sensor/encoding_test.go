package sensor_test

import (
	"bytes"
	"slices"
	"strings"
	"testing"

	"baseboard/api"
	"baseboard/sensor"
)

func checkEncode(t *testing.T, s api.Sensor, want []byte, wantError api.Errno) {
	t.Helper()
	if b, e := sensor.Encode(s); !bytes.Equal(b, want) || e != wantError || e != api.OK && b != nil {
		t.Errorf("%+v is encoded as % X, error %d, not % X, error %d", s, b, e, want, wantError)
	}
}

// P10.2 and Examples
func TestEncodeOfKnownSensors(t *testing.T) {
	for _, x := range known {
		checkEncode(t, x.s, x.b, api.OK)
		if b := encoded(x.s); !bytes.Equal(b, x.b) {
			t.Errorf("the tests encode %+v as % X, not % X", x.s, b, x.b)
		}
	}
}

// Examples
func TestExample(t *testing.T) {
	s := api.Sensor{Number: 2, Type: 0x25, Name: "P", Discrete: true, States: 1, Assert: 1, Deassert: 1, Samples: 1}
	b := []byte{0x01, 0x02, 0x25, 0x00, 0x00, 0x00, 0x05, 0x01, 0x50, 0x01, 0x00, 0x01, 0x00, 0x01, 0x00, 0x7F}
	checkEncode(t, s, b, api.OK)
	checkDecode(t, b, s, api.OK)
}

// P10.2
func TestEncodeOfInvalidSensors(t *testing.T) {
	checkEncode(t, api.Sensor{}, nil, api.ErrInvalid)
	for _, x := range faults() {
		checkEncode(t, x.s, nil, api.ErrInvalid)
	}
}

// P10.2
func TestEachFlag(t *testing.T) {
	for _, x := range []struct {
		discrete, hostOn bool
		samples          int
		want             byte
	}{
		{false, false, 1, 4}, {false, true, 1, 6}, {false, false, 3, 12}, {false, true, 3, 14},
		{false, false, 5, 20}, {false, true, 5, 22}, {true, false, 1, 5}, {true, true, 1, 7},
	} {
		s := analog()
		if x.discrete {
			s = discrete()
		}
		s.HostOn, s.Samples = x.hostOn, x.samples
		if b, e := sensor.Encode(s); e != api.OK || len(b) < 7 || b[6] != x.want {
			t.Errorf("%+v is encoded as % X, error %d, and not with the flags %02X", s, b, e, x.want)
		}
		checkDecode(t, encoded(s), s, api.OK)
	}
}

// P10.2: a change of a field changes its own bytes and the sum, and nothing else.
func TestEachFieldHasItsPlace(t *testing.T) {
	// The name of the analog sensor has 5 bytes, and its conversion has 7; the name of the discrete one has 11.
	for _, x := range []struct {
		s      api.Sensor
		change func(s *api.Sensor)
		at     int
		want   []byte
	}{
		{analog(), func(s *api.Sensor) { s.Number = 0xA1 }, 1, []byte{0xA1}},
		{analog(), func(s *api.Sensor) { s.Type = 0xA2 }, 2, []byte{0xA2}},
		{analog(), func(s *api.Sensor) { s.Unit = 0xA3 }, 3, []byte{0xA3}},
		{analog(), func(s *api.Sensor) { s.Entity.ID = 0xA4 }, 4, []byte{0xA4}},
		{analog(), func(s *api.Sensor) { s.Entity.Instance = 0xA5 }, 5, []byte{0xA5}},
		{analog(), func(s *api.Sensor) { s.HostOn, s.Samples = false, 5 }, 6, []byte{0x14}},
		{analog(), func(s *api.Sensor) { s.Name = "~ !Zz" }, 8, []byte("~ !Zz")},
		{analog(), func(s *api.Sensor) { s.Conversion.M = -2 }, 14, []byte{0xFE, 0xFF}},
		{analog(), func(s *api.Sensor) { s.Conversion.K2 = 3 }, 19, []byte{0x03}},
		{analog(), func(s *api.Sensor) { s.Limits = api.Thresholds{Mask: 0x3F, Raw: [6]uint8{3, 2, 1, 0xFD, 0xFE, 0xFF}} }, 21, []byte{3, 2, 1, 0xFD, 0xFE, 0xFF}},
		{analog(), func(s *api.Sensor) { s.Limits.Mask, s.Limits.Raw[3], s.Assert = 0x37, 0, 0x37 }, 20, []byte{0x37, 30, 20, 10, 0, 90, 100, 2, 3, 0x37, 0}},
		{analog(), func(s *api.Sensor) { s.HystLower = 0xA6 }, 27, []byte{0xA6}},
		{analog(), func(s *api.Sensor) { s.HystUpper = 0xA7 }, 28, []byte{0xA7}},
		{analog(), func(s *api.Sensor) { s.Assert = 0x2A }, 29, []byte{0x2A, 0}},
		{analog(), func(s *api.Sensor) { s.Deassert = 0x3E }, 31, []byte{0x3E, 0}},
		{discrete(), func(s *api.Sensor) { s.Number = 0xB1 }, 1, []byte{0xB1}},
		{discrete(), func(s *api.Sensor) { s.HostOn = false }, 6, []byte{0x05}},
		{discrete(), func(s *api.Sensor) { s.States = 0x57BD }, 19, []byte{0xBD, 0x57}},
		{discrete(), func(s *api.Sensor) { s.Assert = 0x4567 }, 21, []byte{0x67, 0x45}},
		{discrete(), func(s *api.Sensor) { s.Deassert = 0x5678 }, 23, []byte{0x78, 0x56}},
	} {
		s := changed(x.s, x.change)
		want := payload(x.s)
		copy(want[x.at:], x.want)
		checkEncode(t, s, sealed(want), api.OK)
	}
}

// P10.2: what differs between two lengths of a name, and nothing else.
func TestEachLengthOfNamesHasItsPlace(t *testing.T) {
	for _, s := range []api.Sensor{analog(), discrete()} {
		b := payload(s)
		head, tail := b[:7], b[8+len(s.Name):]
		for n := 1; n <= api.MaxName; n++ {
			s.Name = strings.Repeat("b", n)
			want := slices.Concat(head, []byte{byte(n)}, []byte(s.Name), tail)
			checkEncode(t, s, sealed(want), api.OK)
		}
	}
}

// Consequences: Decode of Encode returns the record; an encoding has at most MaxRecord bytes.
func TestDecodeOfEncode(t *testing.T) {
	for _, s := range samples() {
		b, e := sensor.Encode(s)
		if e != api.OK || len(b) > api.MaxRecord || !bytes.Equal(b, encoded(s)) {
			t.Errorf("%+v is encoded as % X, error %d", s, b, e)
		}
		checkDecode(t, b, s, api.OK)
	}
}

// Consequences
func TestLongestAndShortestEncodings(t *testing.T) {
	s := analog()
	s.Name = "sixteen letters!"
	s.Conversion = table(0, api.MaxPoints)
	if b, e := sensor.Encode(s); len(b) != 124 || e != api.OK {
		t.Errorf("the longest encoding has %d bytes, error %d", len(b), e)
	}
	s = discrete()
	s.Name = "1"
	if b, e := sensor.Encode(s); len(b) != 16 || e != api.OK {
		t.Errorf("the shortest encoding has %d bytes, error %d", len(b), e)
	}
}

// P10.2: the sum of all bytes is a multiple of 256.
func TestSumOfEncodings(t *testing.T) {
	sums := map[byte]bool{}
	for _, s := range samples() {
		b, e := sensor.Encode(s)
		var sum byte
		for _, x := range b {
			sum += x
		}
		if sum != 0 || e != api.OK || len(b) == 0 {
			t.Fatalf("the bytes % X have the sum %d, error %d", b, sum, e)
		}
		sums[b[len(b)-1]] = true
	}
	if len(sums) != 256 {
		t.Errorf("only %d of the sums occurred", len(sums))
	}
}
