package sensor_test

import (
	"bytes"
	"math/rand"
	"slices"
	"testing"

	"baseboard/api"
	"baseboard/sensor"
)

func checkDecode(t *testing.T, b []byte, want api.Sensor, wantError api.Errno) {
	t.Helper()
	if s, e := sensor.Decode(b); !equal(s, want) || e != wantError {
		t.Errorf("% X is decoded as %+v, error %d, not %+v, error %d", b, s, e, want, wantError)
	}
}

func checkRefused(t *testing.T, b []byte, want api.Errno) {
	t.Helper()
	checkDecode(t, b, api.Sensor{}, want)
}

// checkModel compares with what the chapter says.
func checkModel(t *testing.T, b []byte) api.Errno {
	t.Helper()
	s, e := wantDecoded(b)
	checkDecode(t, b, s, e)
	return e
}

// few are valid sensors of all kinds.
func few() []api.Sensor {
	var l []api.Sensor
	for _, x := range known {
		l = append(l, x.s)
	}
	s := analog()
	s.Conversion = table(5, api.MaxPoints)
	s.Name = "0123456789abcdef"
	return append(l, s)
}

// P10.3
func TestDecodeOfKnownBytes(t *testing.T) {
	for _, x := range known {
		checkDecode(t, x.b, x.s, api.OK)
	}
}

// P10.3
func TestDecodeOfTooFewBytes(t *testing.T) {
	checkRefused(t, nil, api.ErrTruncated)
	checkRefused(t, []byte{}, api.ErrTruncated)
	for n := range 9 {
		for _, x := range []byte{0, 1, 0xFF} {
			b := bytes.Repeat([]byte{x}, n)
			checkRefused(t, b, api.ErrTruncated)
			if n < 8 {
				checkRefused(t, sealed(b), api.ErrTruncated)
			}
		}
	}
	// With nine bytes it is the sum that is looked at first.
	checkRefused(t, make([]byte, 9), api.ErrForm)
	checkRefused(t, []byte{1, 0, 0, 0, 0, 0, 0, 0, 0}, api.ErrChecksum)
	checkRefused(t, []byte{1, 0, 0, 0, 0, 0, 0, 0, 0xFF}, api.ErrTruncated)
}

// P10.3: cut off at every place, with a sum that is right, and without.
func TestDecodeOfBytesThatAreCutOff(t *testing.T) {
	for _, s := range few() {
		b := encoded(s)
		for n := range len(b) - 1 {
			checkRefused(t, sealed(b[:n]), api.ErrTruncated)
			checkModel(t, b[:n:n])
			// What lies in the memory behind the slice does not belong to it.
			checkModel(t, b[:n])
		}
		for n := range b[:9] {
			checkRefused(t, b[:n], api.ErrTruncated)
		}
	}
}

// P10.3
func TestDecodeOfBytesBehindTheEnd(t *testing.T) {
	for _, s := range few() {
		b := payload(s)
		for n := 1; n < 300; n++ {
			checkRefused(t, sealed(append(slices.Clone(b), make([]byte, n)...)), api.ErrForm)
			checkRefused(t, sealed(append(slices.Clone(b), bytes.Repeat([]byte{0xFF}, n)...)), api.ErrForm)
		}
		// Behind the sum, bytes are behind the end too.
		checkRefused(t, append(sealed(b), 0), api.ErrForm)
		checkRefused(t, slices.Concat(sealed(b), sealed(b)), api.ErrForm)
		checkRefused(t, append(sealed(b), 1), api.ErrChecksum)
		checkRefused(t, sealed(append(b, make([]byte, 1<<16)...)), api.ErrForm)
	}
}

// P10.3
func TestDecodeOfEachFirstByte(t *testing.T) {
	for _, s := range few() {
		b := payload(s)
		for x := range 256 {
			b[0] = byte(x)
			if x == 1 {
				checkDecode(t, sealed(b), s, api.OK)
			} else {
				checkRefused(t, sealed(b), api.ErrForm)
			}
		}
	}
}

// P10.3
func TestDecodeOfEachFlagsOfDiscreteSensors(t *testing.T) {
	b := payload(discrete())
	for x := range 256 {
		b[6] = byte(x)
		switch {
		case x >= 32:
			checkRefused(t, sealed(b), api.ErrForm)
		case x == 5 || x == 7:
			want := discrete()
			want.HostOn = x == 7
			checkDecode(t, sealed(b), want, api.OK)
		case x%2 == 1:
			checkRefused(t, sealed(b), api.ErrInvalid)
		default:
			// The states FF 7F hex are not the beginning of a conversion.
			checkRefused(t, sealed(b), api.ErrForm)
		}
	}
}

// P10.3
func TestDecodeOfEachFlagsOfAnalogSensors(t *testing.T) {
	b := payload(analog())
	for x := range 256 {
		b[6] = byte(x)
		switch {
		case x >= 32:
			checkRefused(t, sealed(b), api.ErrForm)
		case x%2 == 1:
			// A discrete sensor ends earlier.
			checkRefused(t, sealed(b), api.ErrForm)
		case x == 4 || x == 6 || x == 12 || x == 14 || x == 20 || x == 22:
			want := analog()
			want.Samples, want.HostOn = x/4, x%4 == 2
			checkDecode(t, sealed(b), want, api.OK)
		default:
			checkRefused(t, sealed(b), api.ErrInvalid)
		}
	}
}

// P10.3: each last byte, and each sum of a record in which another byte is wrong.
func TestDecodeOfEachSum(t *testing.T) {
	for _, s := range few() {
		b := encoded(s)
		last := len(b) - 1
		right := b[last]
		for x := range 256 {
			b[last] = byte(x)
			if b[last] == right {
				checkDecode(t, b, s, api.OK)
			} else {
				checkRefused(t, b, api.ErrChecksum)
			}
		}
	}
}

// Consequences: a byte that was changed is detected.
func TestEachChangedByteIsDetected(t *testing.T) {
	for _, s := range append(few(), drawValid(103, 100)...) {
		b := encoded(s)
		for i, right := range b {
			for x := range 256 {
				b[i] = byte(x)
				if b[i] == right {
					checkDecode(t, b, s, api.OK)
				} else {
					checkRefused(t, b, api.ErrChecksum)
				}
			}
			b[i] = right
		}
	}
}

// P10.3: each byte at each place, with the sum that belongs to it.
func TestDecodeOfEachByteAtEachPlace(t *testing.T) {
	counts := map[api.Errno]int{}
	for _, s := range few() {
		b := payload(s)
		for i, right := range b {
			for x := range 256 {
				b[i] = byte(x)
				counts[checkModel(t, sealed(b))]++
			}
			b[i] = right
		}
	}
	for _, e := range []api.Errno{api.OK, api.ErrTruncated, api.ErrForm, api.ErrInvalid} {
		if counts[e] < 500 {
			t.Errorf("too few bytes of a kind: %v", counts)
		}
	}
}

// P10.3: each length of a name that is not there completely, and of one that is too long.
func TestDecodeOfEachLengthOfNames(t *testing.T) {
	for n := range 256 {
		for _, there := range []int{0, 1, n - 1, n, n + 5, n + 6, n + 7, 300} {
			b := []byte{1, 2, 3, 4, 5, 6, 5, byte(n)}
			b = sealed(append(b, bytes.Repeat([]byte{0}, max(there, 0))...))
			switch {
			case there < n+6:
				checkRefused(t, b, api.ErrTruncated)
			case there > n+6:
				checkRefused(t, b, api.ErrForm)
			default:
				// Even a name of a permitted length has bytes that are not permitted.
				checkRefused(t, b, api.ErrInvalid)
			}
		}
		b := append([]byte{1, 2, 3, 4, 5, 6, 5, byte(n)}, bytes.Repeat([]byte{'q'}, n)...)
		b = sealed(append(b, 0, 0, 0, 0, 0, 0))
		want := api.Sensor{Number: 2, Type: 3, Unit: 4, Entity: api.Entity{ID: 5, Instance: 6}, Name: string(b[8 : 8+n]), Discrete: true, Samples: 1}
		if n >= 1 && n <= 16 {
			checkDecode(t, b, want, api.OK)
		} else {
			checkRefused(t, b, api.ErrInvalid)
		}
	}
}

// withConversion returns the sealed encoding of an analog sensor with these bytes in the place of its conversion.
func withConversion(c ...byte) []byte {
	b := payload(analog())
	return sealed(slices.Concat(b[:13], c, b[20:]))
}

// P10.3
func TestDecodeOfConversionsThatCannotBeDecoded(t *testing.T) {
	checkDecode(t, withConversion(1, 5, 0, 0xF6, 0xFF, 1, 0xFE), analog(), api.OK)
	for _, x := range []struct {
		c    []byte
		want api.Errno
	}{
		{[]byte{0, 5, 0, 0xF6, 0xFF, 1, 0xFE}, api.ErrForm},
		{[]byte{6, 5, 0, 0xF6, 0xFF, 1, 0xFE}, api.ErrForm},
		{[]byte{0x80, 5, 0, 0xF6, 0xFF, 1, 0xFE}, api.ErrForm},
		{[]byte{0x86, 5, 0, 0xF6, 0xFF, 1, 0xFE}, api.ErrForm},
		{[]byte{0xFF}, api.ErrForm},
		{[]byte{5, 0}, api.ErrForm},
		{[]byte{5, 1, 0, 0, 0, 0, 0, 0, 0}, api.ErrForm},
		{[]byte{5, 13}, api.ErrForm},
		{[]byte{0x85, 0xFF}, api.ErrForm},
		{[]byte{5, 2}, api.ErrTruncated},
		{[]byte{5, 12}, api.ErrTruncated},
		{[]byte{1, 0, 2, 0, 0, 0, 0}, api.ErrInvalid},
		{[]byte{2, 0, 0, 0xFF, 0xFD, 0, 0}, api.ErrInvalid},
		{[]byte{3, 0, 0, 0, 0, 4, 0}, api.ErrInvalid},
		{[]byte{4, 0, 0, 0, 0, 0, 0xFC}, api.ErrInvalid},
		{[]byte{5, 2, 9, 0, 0, 0, 0, 0, 0, 9, 0, 0, 0, 0, 0, 0}, api.ErrInvalid},
		{[]byte{0x85, 2, 0x7F, 0, 0, 0, 0, 0, 0, 0x80, 0, 0, 0, 0, 0, 0}, api.ErrInvalid},
		{[]byte{5, 2, 0, 0, 0, 0, 0, 0, 0x80, 1, 0, 0, 0, 0, 0, 0}, api.ErrInvalid},
	} {
		checkRefused(t, withConversion(x.c...), x.want)
	}
	// There is no byte behind the name.
	checkRefused(t, sealed(payload(analog())[:13]), api.ErrTruncated)
}

// P10.3: sensors that are not valid, but whose bytes are well-formed.
func TestDecodeOfInvalidSensors(t *testing.T) {
	counts := map[string]int{}
	for _, x := range faults() {
		s := x.s
		if x.condition == "conversion" || x.condition == "samples" && (s.Samples < 0 || s.Samples > 7) || len(s.Name) > 255 {
			continue
		}
		if s.Discrete && (s.Limits != api.Thresholds{} || s.HystLower != 0 || s.HystUpper != 0) || !s.Discrete && s.States != 0 {
			continue // it cannot be written
		}
		checkRefused(t, encoded(s), api.ErrInvalid)
		counts[x.condition]++
	}
	for _, condition := range []string{"length", "characters", "samples", "one sample", "mask", "raw", "assert", "deassert", "lower", "upper", "sides", "states"} {
		if counts[condition] == 0 {
			t.Errorf("no bytes of a sensor break the condition %s: %v", condition, counts)
		}
	}
}

// P10.3: two errors at once.
func TestOrderOfErrorsOfDecode(t *testing.T) {
	a, d := payload(analog()), payload(discrete())
	with := func(b []byte, at int, x ...byte) []byte {
		b = slices.Clone(b)
		copy(b[at:], x)
		return b
	}
	unsealed := func(b []byte) []byte {
		b = sealed(b)
		b[len(b)-1]++
		return b
	}
	longer := func(b []byte) []byte { return append(slices.Clone(b), 7) }
	for i, x := range []struct {
		b    []byte
		want api.Errno
	}{
		// Fewer than nine bytes, and a sum, a first byte or flags that are wrong.
		{unsealed(a[:7]), api.ErrTruncated},
		{sealed(with(a[:7], 0, 2)), api.ErrTruncated},
		{sealed(with(a[:7], 6, 32)), api.ErrTruncated},
		{bytes.Repeat([]byte{0xFF}, 8), api.ErrTruncated},
		// A sum that is wrong, and another error.
		{unsealed(with(a, 0, 2)), api.ErrChecksum},
		{unsealed(with(a, 6, 32)), api.ErrChecksum},
		{unsealed(with(a, 7, 255)), api.ErrChecksum},
		{unsealed(with(a, 13, 0)), api.ErrChecksum},
		{unsealed(a[:20]), api.ErrChecksum},
		{unsealed(d[:20]), api.ErrChecksum},
		{unsealed(longer(d)), api.ErrChecksum},
		{unsealed(with(d, 8, 0)), api.ErrChecksum},
		// A first byte or flags that are wrong, and another error.
		{sealed(with(a, 0, 2)[:10]), api.ErrForm},
		{sealed(with(a, 6, 32)[:10]), api.ErrForm},
		{sealed(with(d, 6, 37)[:10]), api.ErrForm},
		{sealed(with(a[:8], 0, 0)), api.ErrForm},
		{sealed(with(a, 0, 0)[:15]), api.ErrForm},
		{sealed(with(with(a, 0, 0), 14, 0, 2)), api.ErrForm},
		{sealed(with(d, 0, 0)[:20]), api.ErrForm},
		{sealed(with(with(d, 0, 0), 8, 0)), api.ErrForm},
		// A name that is not there completely, and bytes in it that are wrong.
		{sealed(with(d, 8, 0)[:18]), api.ErrTruncated},
		{sealed(with(a, 8, 0)[:12]), api.ErrTruncated},
		{sealed(with(a, 6, 0)[:12]), api.ErrTruncated},
		{sealed(with(a, 7, 255)), api.ErrTruncated},
		{sealed(with(with(a, 7, 255), 13, 0)), api.ErrTruncated},
		// A conversion that is wrong, and another error behind it or in the record.
		{sealed(with(a, 13, 0)[:14]), api.ErrForm},
		{sealed(with(a, 13, 0)[:25]), api.ErrForm},
		{sealed(with(with(a, 13, 0), 8, 0)), api.ErrForm},
		{sealed(longer(with(a, 13, 0))), api.ErrForm},
		{sealed(with(a, 14, 0, 2)[:19]), api.ErrTruncated},
		{sealed(with(a, 14, 0, 2)[:20]), api.ErrInvalid},
		{sealed(with(a, 14, 0, 2)[:25]), api.ErrInvalid},
		{sealed(longer(with(a, 14, 0, 2))), api.ErrInvalid},
		{sealed(with(with(a, 14, 0, 2), 8, 0)), api.ErrInvalid},
		{sealed(with(a, 13, 5, 2)[:29]), api.ErrInvalid},
		{sealed(with(a, 13, 5, 12)), api.ErrTruncated},
		{sealed(longer(with(a, 13, 5, 3))), api.ErrTruncated},
		// A rest that is not there completely, and a record that is not valid.
		{sealed(with(a, 8, 0)[:32]), api.ErrTruncated},
		{sealed(with(a, 6, 0)[:32]), api.ErrTruncated},
		{sealed(with(a, 20, 0xFF)[:32]), api.ErrTruncated},
		{sealed(with(d, 8, 0)[:24]), api.ErrTruncated},
		{sealed(with(d, 6, 1)[:24]), api.ErrTruncated},
		{sealed(with(d, 20, 0xFF)[:24]), api.ErrTruncated},
		// More bytes, and a record that is not valid.
		{sealed(longer(with(a, 8, 0))), api.ErrForm},
		{sealed(longer(with(a, 6, 0))), api.ErrForm},
		{sealed(longer(with(a, 20, 0xFF))), api.ErrForm},
		{sealed(longer(with(d, 8, 0))), api.ErrForm},
		{sealed(longer(with(d, 6, 1))), api.ErrForm},
		{sealed(longer(with(d, 20, 0xFF))), api.ErrForm},
	} {
		if s, e := wantDecoded(x.b); e != x.want || !equal(s, api.Sensor{}) {
			t.Errorf("%d: the tests expect error %d, not %d", i, e, x.want)
		}
		checkRefused(t, x.b, x.want)
	}
}

// P10.3: what Decode returns is encoded as the bytes that it was read from.
func TestDecodeOfDrawnBytes(t *testing.T) {
	r := rand.New(rand.NewSource(104))
	all := samples()
	counts := map[api.Errno]int{}
	for range 50000 {
		b := payload(all[r.Intn(len(all))])
		for range r.Intn(3) {
			b[r.Intn(len(b))] = byte(r.Intn(256) >> r.Intn(8))
		}
		if r.Intn(8) == 0 {
			b = append(b, b...)[:r.Intn(len(b)+10)]
		}
		b = sealed(b)
		if r.Intn(16) == 0 {
			b[r.Intn(len(b))] ^= 1 << r.Intn(8)
		}
		counts[checkModel(t, b)]++
		if s, e := sensor.Decode(b); e == api.OK {
			checkEncode(t, s, b, api.OK)
		}
	}
	for _, e := range []api.Errno{api.OK, api.ErrTruncated, api.ErrChecksum, api.ErrForm, api.ErrInvalid} {
		if counts[e] < 1000 {
			t.Errorf("too few bytes of a kind: %v", counts)
		}
	}
}

// R1
func FuzzDecode(f *testing.F) {
	for _, x := range known {
		f.Add(x.b, false)
		f.Add(x.b[:len(x.b)-1], true)
		f.Add(x.b[:10], true)
		f.Add(append(slices.Clone(x.b), 0), false)
	}
	f.Fuzz(func(t *testing.T, b []byte, seal bool) {
		if seal {
			b = sealed(b)
		}
		if checkModel(t, b) == api.OK {
			s, _ := sensor.Decode(b)
			checkEncode(t, s, b, api.OK)
		}
	})
}
