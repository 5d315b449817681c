package event_test

import (
	"bytes"
	"math/rand"
	"slices"
	"testing"

	"baseboard/api"
	"baseboard/event"
)

func checkEncode(t *testing.T, e api.Event, want []byte, wantError api.Errno) {
	t.Helper()
	if b, err := event.Encode(e); !bytes.Equal(b, want) || err != wantError || err != api.OK && b != nil {
		t.Errorf("%+v is encoded as % X, error %d, not % X, error %d", e, b, err, want, wantError)
	}
}

func checkDecode(t *testing.T, b []byte, want api.Event, wantError api.Errno) {
	t.Helper()
	if e, err := event.Decode(b); e != want || err != wantError {
		t.Errorf("% X is decoded as %+v, error %d, not %+v, error %d", b, e, err, want, wantError)
	}
}

// P7.1
func TestValidOfKnownEvents(t *testing.T) {
	for _, x := range []struct {
		e    api.Event
		want bool
	}{
		{api.Event{}, true},
		{api.Event{ID: 1}, true},
		{api.Event{ID: api.MaxID}, true},
		{api.Event{ID: api.MaxID + 1}, false},
		{api.Event{Time: 1}, true},
		{api.Event{Time: api.MaxSeconds}, true},
		{api.Event{Time: api.MaxSeconds + 1}, false},
		{api.Event{Type: 0x01}, true},
		{api.Event{Type: 0x6F}, true},
		{api.Event{Type: 0x7F}, true},
		{api.Event{Type: 0x80}, false},
		{api.Event{Type: 0x81}, false},
		{api.Event{Type: 0xEF}, false},
		{api.Event{Type: 0xFF}, false},
		{api.Event{Deassert: true}, true},
		{api.Event{Type: 0x7F, Deassert: true}, true},
		{api.Event{Type: 0x80, Deassert: true}, false},
		{api.Event{Type: 0xFF, Deassert: true}, false},
		{api.Event{Generator: 0xFFFF, SensorType: 0xFF, Sensor: 0xFF, Data: [3]uint8{0xFF, 0xFF, 0xFF}}, true},
		{api.Event{ID: 65534, Time: 4294967294, Generator: 65535, SensorType: 255, Sensor: 255, Type: 127, Deassert: true, Data: [3]uint8{255, 255, 255}}, true},
		{api.Event{ID: 65535, Time: 4294967295, Type: 255}, false},
	} {
		if got := event.Valid(x.e); got != x.want {
			t.Errorf("Valid of %+v is %t", x.e, got)
		}
	}
}

// P7.1
func TestValidOfEachIDAndType(t *testing.T) {
	for id := range 1 << 16 {
		if got := event.Valid(api.Event{ID: uint16(id), Time: 5, Type: 6}); got != (id < 65535) {
			t.Errorf("Valid with ID %d is %t", id, got)
		}
	}
	for eventType := range 256 {
		for _, deassert := range []bool{false, true} {
			if got := event.Valid(api.Event{ID: 4, Time: 5, Type: uint8(eventType), Deassert: deassert}); got != (eventType < 128) {
				t.Errorf("Valid with Type %02X, Deassert %t is %t", eventType, deassert, got)
			}
		}
	}
}

// P7.1: each combination of what makes an event invalid.
func TestValidAndEncodeOfEdges(t *testing.T) {
	counts := map[bool]int{}
	for _, e := range edges() {
		counts[valid(e)]++
		if event.Valid(e) != valid(e) {
			t.Errorf("Valid of %+v is %t", e, !valid(e))
		}
		if valid(e) {
			checkEncode(t, e, encoded(e), api.OK)
		} else {
			checkEncode(t, e, nil, api.ErrInvalid)
		}
	}
	if counts[true] < 100 || counts[false] < 100 {
		t.Errorf("too few events of a kind: %v", counts)
	}
}

// P7.1
func TestEncodeOfKnownEvents(t *testing.T) {
	for _, x := range known {
		if !event.Valid(x.e) {
			t.Errorf("%+v is not valid", x.e)
		}
		checkEncode(t, x.e, x.b, api.OK)
	}
}

// P7.1, P7.2 and Consequences
func TestDecodeOfEncode(t *testing.T) {
	for _, e := range samples() {
		if !event.Valid(e) {
			t.Errorf("%+v is not valid", e)
		}
		checkEncode(t, e, encoded(e), api.OK)
		b, _ := event.Encode(e)
		checkDecode(t, b, e, api.OK)
	}
}

// P7.1
func TestValidAndEncodeOfDrawnEvents(t *testing.T) {
	r := rand.New(rand.NewSource(72))
	refused := 0
	for range 20000 {
		e := draw(r)
		if event.Valid(e) != valid(e) {
			t.Errorf("Valid of %+v is %t", e, !valid(e))
		}
		if valid(e) {
			checkEncode(t, e, encoded(e), api.OK)
		} else {
			checkEncode(t, e, nil, api.ErrInvalid)
			refused++
		}
	}
	if refused < 500 {
		t.Errorf("only %d events are refused", refused)
	}
}

// P7.2
func TestDecodeOfKnownBytes(t *testing.T) {
	for _, x := range known {
		checkDecode(t, x.b, x.e, api.OK)
	}
}

// P7.2 and R3
func TestDecodeOfTooFewBytes(t *testing.T) {
	checkDecode(t, nil, api.Event{}, api.ErrTruncated)
	checkDecode(t, []byte{}, api.Event{}, api.ErrTruncated)
	for _, x := range known {
		for n := range 16 {
			checkDecode(t, x.b[:n], api.Event{}, api.ErrTruncated)
			checkDecode(t, slices.Clone(x.b[:n]), api.Event{}, api.ErrTruncated)
			checkDecode(t, x.b[16-n:], api.Event{}, api.ErrTruncated)
		}
	}
}

// P7.2
func TestDecodeOfTooManyBytes(t *testing.T) {
	for _, x := range known {
		for n := 17; n < 70; n++ {
			checkDecode(t, append(slices.Clone(x.b), make([]byte, n-16)...), api.Event{}, api.ErrForm)
		}
		checkDecode(t, append(slices.Clone(x.b), x.b...), api.Event{}, api.ErrForm)
		checkDecode(t, append([]byte{0}, x.b...), api.Event{}, api.ErrForm)
		checkDecode(t, append(slices.Clone(x.b), make([]byte, 1<<16)...), api.Event{}, api.ErrForm)
	}
}

// P7.2: each third byte with each tenth byte.
func TestDecodeOfEachMark(t *testing.T) {
	for _, x := range known {
		b := slices.Clone(x.b)
		for third := range 256 {
			for tenth := range 256 {
				b[2], b[9] = byte(third), byte(tenth)
				if third == 2 && tenth == 4 {
					checkDecode(t, b, x.e, api.OK)
				} else {
					checkDecode(t, b, api.Event{}, api.ErrForm)
				}
			}
		}
	}
}

// P7.2
func TestDecodeOfInvalidEvents(t *testing.T) {
	for _, x := range known {
		for _, change := range []struct {
			at    int
			bytes []byte
			want  api.Errno
		}{
			{0, []byte{0xFF, 0xFF}, api.ErrInvalid},
			{0, []byte{0xFE, 0xFF}, api.OK},
			{0, []byte{0xFF, 0xFE}, api.OK},
			{0, []byte{0x00, 0xFF}, api.OK},
			{0, []byte{0xFF, 0x00}, api.OK},
			{3, []byte{0xFF, 0xFF, 0xFF, 0xFF}, api.ErrInvalid},
			{3, []byte{0xFE, 0xFF, 0xFF, 0xFF}, api.OK},
			{3, []byte{0xFF, 0xFE, 0xFF, 0xFF}, api.OK},
			{3, []byte{0xFF, 0xFF, 0xFE, 0xFF}, api.OK},
			{3, []byte{0xFF, 0xFF, 0xFF, 0xFE}, api.OK},
			{7, []byte{0xFF, 0xFF}, api.OK},
			{10, []byte{0xFF, 0xFF, 0xFF, 0xFF, 0xFF, 0xFF}, api.OK},
		} {
			b := slices.Clone(x.b)
			copy(b[change.at:], change.bytes)
			want, wantError := wantDecoded(b)
			if wantError != change.want {
				t.Errorf("% X ought to be error %d", b, change.want)
			}
			checkDecode(t, b, want, wantError)
		}
	}
}

// P7.2: the byte of the Type and of Deassert never makes an event invalid.
func TestDecodeOfEachType(t *testing.T) {
	for _, x := range known {
		b := slices.Clone(x.b)
		for v := range 256 {
			b[12] = byte(v)
			want := x.e
			want.Type, want.Deassert = uint8(v&0x7F), v >= 0x80
			checkDecode(t, b, want, api.OK)
		}
	}
}

// P7.2
func TestOrderOfErrorsOfDecode(t *testing.T) {
	invalid := []byte{0xFF, 0xFF, 2, 0xFF, 0xFF, 0xFF, 0xFF, 0, 0, 4, 0, 0, 0, 0, 0, 0}
	wrong := slices.Clone(known[3].b)
	wrong[2], wrong[9] = 3, 5
	both := slices.Clone(invalid)
	both[2] = 0
	other := slices.Clone(invalid)
	other[9] = 0
	for _, x := range []struct {
		b    []byte
		want api.Errno
	}{
		{invalid, api.ErrInvalid},
		{invalid[:15], api.ErrTruncated},
		{wrong[:15], api.ErrTruncated},
		{wrong[:3], api.ErrTruncated},
		{both[:15], api.ErrTruncated},
		{append(slices.Clone(wrong), 0), api.ErrForm},
		{append(slices.Clone(invalid), 0), api.ErrForm},
		{append(slices.Clone(both), 0), api.ErrForm},
		{wrong, api.ErrForm},
		{both, api.ErrForm},
		{other, api.ErrForm},
		{bytes.Repeat([]byte{0xFF}, 15), api.ErrTruncated},
		{bytes.Repeat([]byte{0xFF}, 16), api.ErrForm},
		{bytes.Repeat([]byte{0xFF}, 17), api.ErrForm},
		{make([]byte, 15), api.ErrTruncated},
		{make([]byte, 16), api.ErrForm},
		{make([]byte, 17), api.ErrForm},
	} {
		checkDecode(t, x.b, api.Event{}, x.want)
	}
}

// P7.2
func TestDecodeWithEachByteAtEachPlace(t *testing.T) {
	for _, x := range known {
		for i := range x.b {
			b := slices.Clone(x.b)
			for v := range 256 {
				b[i] = byte(v)
				want, wantError := wantDecoded(b)
				checkDecode(t, b, want, wantError)
			}
		}
	}
}

// P7.2: what Decode returns is encoded as the bytes that it was read from.
func TestDecodeOfDrawnBytes(t *testing.T) {
	r := rand.New(rand.NewSource(73))
	counts := map[api.Errno]int{}
	for range 50000 {
		b := make([]byte, 16)
		r.Read(b)
		b[2] = []byte{2, 2, 2, 2, 2, 2, 4, byte(r.Intn(256))}[r.Intn(8)]
		b[9] = []byte{4, 4, 4, 4, 4, 4, 2, byte(r.Intn(256))}[r.Intn(8)]
		for _, x := range [][]byte{b[0:2], b[3:7]} {
			if r.Intn(8) == 0 {
				copy(x, []byte{0xFF, 0xFF, 0xFF, 0xFF})
			}
		}
		if r.Intn(10) == 0 {
			b = append(b, b...)[:r.Intn(20)]
		}
		want, wantError := wantDecoded(b)
		checkDecode(t, b, want, wantError)
		counts[wantError]++
		if e, err := event.Decode(b); err == api.OK {
			checkEncode(t, e, b, api.OK)
		}
	}
	for _, e := range []api.Errno{api.OK, api.ErrTruncated, api.ErrForm, api.ErrInvalid} {
		if counts[e] < 1000 {
			t.Errorf("too few bytes of a kind: %v", counts)
		}
	}
}

// R1
func FuzzDecode(f *testing.F) {
	for _, x := range known {
		f.Add(x.b)
		f.Add(x.b[:15])
		f.Add(append(slices.Clone(x.b), 0))
	}
	f.Add(bytes.Repeat([]byte{0xFF}, 16))
	f.Fuzz(func(t *testing.T, b []byte) {
		want, wantError := wantDecoded(b)
		checkDecode(t, b, want, wantError)
		if wantError == api.OK {
			checkEncode(t, want, b, api.OK)
		}
	})
}
