package event_test

import (
	"bytes"
	"math/rand"
	"slices"
	"strings"
	"testing"
	"unsafe"

	"baseboard/api"
	"baseboard/event"
)

// refusedBytes are bytes of each error of Decode.
func refusedBytes() [][]byte {
	good := known[3].b
	wrong := slices.Clone(good)
	wrong[9] = 0
	invalid := slices.Clone(good)
	invalid[0], invalid[1] = 0xFF, 0xFF
	return [][]byte{nil, good[:1], good[:15], append(slices.Clone(good), 7), wrong, invalid}
}

// R2: of bytes that lie in a longer array, also of those that are refused.
func TestDecodeNeitherChangesNorKeepsBytes(t *testing.T) {
	all := refusedBytes()
	for _, x := range known {
		all = append(all, x.b)
	}
	for _, b := range all {
		array := append(slices.Clone(b), 0xAA, 0xAA, 0xAA, 0xAA)
		before := slices.Clone(array)
		e, err := event.Decode(array[:len(b)])
		if !bytes.Equal(array, before) {
			t.Errorf("% X became % X", before, array)
		}
		clear(array)
		if want, wantError := wantDecoded(b); e != want || err != wantError {
			t.Errorf("what was read from % X became %+v, error %d", b, e, err)
		}
	}
}

// R2
func TestBytesOfEncodeAreNewEachTime(t *testing.T) {
	for _, x := range known {
		b, _ := event.Encode(x.e)
		again, _ := event.Encode(x.e)
		clear(b[:cap(b)])
		if !bytes.Equal(again, x.b) {
			t.Errorf("two encodings of %+v share memory: % X", x.e, again)
		}
		checkEncode(t, x.e, x.b, api.OK)
		clear(again[:cap(again)])
		checkEncode(t, x.e, x.b, api.OK)
	}
}

// R2: the text lies in bytes that are changed afterwards.
func TestParseNeitherChangesNorKeepsText(t *testing.T) {
	texts := []string{"", "0 0 0 0 0 0 + 000000 others", "65536 0 0 0 0 0 + 000000 other", "0 0 0 0 0 1 + 000000 other", "65535 0 0 0 0 0 + 000000 other"}
	for _, x := range known {
		texts = append(texts, x.text)
	}
	for _, s := range texts {
		array := append([]byte(s), "12345678"...)
		e, err := event.Parse(unsafe.String(&array[0], len(s)))
		if string(array) != s+"12345678" {
			t.Errorf("%q became %q", s, array)
		}
		clear(array)
		if want, wantError := wantParsed(s); e != want || err != wantError {
			t.Errorf("what was read from %q became %+v, error %d", s, e, err)
		}
	}
}

// R7: the results do not depend on the calls that were made before.
func TestResultsDependOnlyOnArguments(t *testing.T) {
	type results struct {
		valid, analog, ok                 bool
		index, severity                   int
		bytes, text                       string
		decoded, parsed, threshold, state api.Event
		errors                            [6]api.Errno
	}
	call := func(e api.Event) results {
		var r results
		r.valid = event.Valid(e)
		r.index, r.analog, r.ok = event.Index(e)
		r.severity = event.Severity(e)
		b, err := event.Encode(e)
		r.bytes, r.errors[0] = string(b), err
		r.text, r.errors[1] = event.Format(e)
		r.decoded, r.errors[2] = event.Decode(append(b, make([]byte, e.Time%2)...))
		r.parsed, r.errors[3] = event.Parse(r.text + strings.Repeat(" ", int(e.Time%2)))
		r.threshold, r.errors[4] = event.Threshold(e.SensorType, e.Sensor, int(e.Data[0]%8), e.Deassert, e.Data[1], e.Data[2])
		r.state, r.errors[5] = event.State(e.SensorType, e.Sensor, int(e.Data[0]%18), e.Deassert)
		return r
	}
	r := rand.New(rand.NewSource(79))
	l := edges()
	for range 1000 {
		l = append(l, draw(r))
	}
	var first []results
	for _, e := range l {
		first = append(first, call(e))
	}
	for range 3 {
		for _, i := range r.Perm(len(l)) {
			if got := call(l[i]); got != first[i] {
				t.Errorf("%+v: the results are %+v, and were %+v", l[i], got, first[i])
			}
		}
	}
}

// R2, R7: calls at the same time share nothing.
func TestCallsAtTheSameTime(t *testing.T) {
	done := make(chan bool)
	for seed := range int64(4) {
		go func() {
			for _, e := range drawValid(seed, 500) {
				checkEncode(t, e, encoded(e), api.OK)
				checkDecode(t, encoded(e), e, api.OK)
				checkFormat(t, e, formatted(e), api.OK)
				checkParse(t, formatted(e), e, api.OK)
			}
			done <- true
		}()
	}
	for range 4 {
		<-done
	}
}
