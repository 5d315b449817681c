package sensor_test

import (
	"bytes"
	"math"
	"math/rand"
	"slices"
	"strings"
	"testing"

	"baseboard/api"
	"baseboard/sensor"
)

// all are sensors that are valid and sensors that are not.
func all() []api.Sensor {
	l := samples()
	for _, x := range faults() {
		l = append(l, x.s)
	}
	return l
}

// R2
func TestNoFunctionChangesPoints(t *testing.T) {
	for _, s := range all() {
		array := append(slices.Clone(s.Conversion.Points), api.Point{Raw: 9, Value: 99}, api.Point{Raw: 8, Value: 88})
		before := slices.Clone(array)
		s.Conversion.Points = array[:len(s.Conversion.Points)]
		sensor.Valid(s)
		sensor.Encode(s)
		if !slices.Equal(array, before) {
			t.Errorf("%v became %v", before, array)
		}
	}
}

// R2: also the bytes behind b, in the same memory, stay.
func TestDecodeLeavesAndKeepsNoBytes(t *testing.T) {
	var inputs [][]byte
	for _, s := range append(few(), drawValid(105, 300)...) {
		b := encoded(s)
		inputs = append(inputs, b, b[:8], b[:len(b)-1], sealed(b[:12]), sealed(b))
	}
	for _, b := range inputs {
		want, wantError := wantDecoded(b)
		array := append(slices.Clone(b), 0xAA, 0xAA)
		before := slices.Clone(array)
		s, e := sensor.Decode(array[:len(b)])
		if !bytes.Equal(array, before) {
			t.Errorf("% X became % X", before, array)
		}
		clear(array)
		if !equal(s, want) || e != wantError {
			t.Errorf("what was decoded from % X became %+v, error %d", b, s, e)
		}
	}
}

// R2
func TestEncodingSharesNothingWithPoints(t *testing.T) {
	for _, s := range samples() {
		mine := clone(s)
		b, e := sensor.Encode(mine)
		clear(mine.Conversion.Points)
		if !bytes.Equal(b, encoded(s)) || e != api.OK {
			t.Errorf("the encoding of %+v became % X, error %d", s, b, e)
		}
	}
}

// R2, R7
func TestResultsAreNewEachTime(t *testing.T) {
	for _, s := range samples() {
		b, _ := sensor.Encode(s)
		again, _ := sensor.Encode(s)
		clear(b[:cap(b)])
		if !bytes.Equal(again, encoded(s)) {
			t.Errorf("two encodings of %+v share memory", s)
		}
		read, _ := sensor.Decode(again)
		other, _ := sensor.Decode(again)
		points := read.Conversion.Points
		clear(points[:cap(points)])
		if !equal(other, s) {
			t.Errorf("two sensors that were decoded from % X share memory", again)
		}
	}
}

// R3
func TestNilIsEmpty(t *testing.T) {
	for _, s := range all() {
		if len(s.Conversion.Points) > 0 {
			continue
		}
		for _, points := range [][]api.Point{nil, {}, make([]api.Point, 0, 5)} {
			s.Conversion.Points = points
			check(t, s, valid(s))
		}
	}
}

// R6: a sensor that was decoded has nothing that its kind does not have.
func TestFieldsOfTheOtherKindAreZero(t *testing.T) {
	for _, s := range samples() {
		got, e := sensor.Decode(encoded(s))
		if e != api.OK {
			t.Errorf("%+v: error %d", s, e)
		}
		if !got.Discrete && got.States != 0 {
			t.Errorf("an analog sensor has the states %04X", got.States)
		}
		rest := got
		rest.Conversion, rest.Limits, rest.HystLower, rest.HystUpper = api.Conversion{}, api.Thresholds{}, 0, 0
		if got.Discrete && !equal(got, rest) {
			t.Errorf("a discrete sensor is %+v", got)
		}
	}
}

// R7: the calls in between, and the order of the calls, do not matter.
func TestResultsDependOnlyOnArguments(t *testing.T) {
	r := rand.New(rand.NewSource(106))
	l := all()
	var first [][]byte
	for _, s := range l {
		b, _ := sensor.Encode(s)
		first = append(first, b)
	}
	for _, i := range r.Perm(len(l)) {
		sensor.Decode(first[r.Intn(len(l))])
		b, _ := sensor.Encode(clone(l[i]))
		if !bytes.Equal(b, first[i]) || sensor.Valid(l[i]) != (len(b) > 0) {
			t.Errorf("%+v: % X, later % X", l[i], first[i], b)
		}
	}
}

// R1
func TestMalformedSensors(t *testing.T) {
	numbers := []int{math.MinInt, math.MinInt + 1, -1 << 32, -1, 0, 1, 3, 5, 256, 1 << 32, math.MaxInt}
	r := rand.New(rand.NewSource(107))
	some := func() int { return numbers[r.Intn(len(numbers))] }
	for range 20000 {
		s := drawAnalog(r)
		s.Discrete = r.Intn(2) == 0
		s.Samples = some()
		s.States, s.Assert, s.Deassert = uint16(some()), uint16(some()), uint16(some())
		s.Limits.Mask |= uint8(r.Intn(256) >> r.Intn(8))
		s.Conversion = api.Conversion{Form: some(), M: some(), B: some(), K1: some(), K2: some(), Points: make([]api.Point, r.Intn(20))}
		if r.Intn(2) == 0 {
			s.Conversion.Form = 1 + r.Intn(5)
		}
		for i := range s.Conversion.Points {
			s.Conversion.Points[i] = api.Point{Raw: uint8(some()), Value: int64(some())}
		}
		if r.Intn(2) == 0 {
			s.Conversion = drawConversion(r)
		}
		if r.Intn(4) == 0 {
			s.Name = strings.Repeat(s.Name, r.Intn(3000))
		}
		check(t, s, valid(s))
	}
}

// R1
func TestDecodeOfMalformedBytes(t *testing.T) {
	r := rand.New(rand.NewSource(108))
	for n := range 600 {
		for range 20 {
			b := make([]byte, n)
			r.Read(b)
			checkModel(t, b)
			checkModel(t, sealed(b))
			if n > 7 {
				b[0], b[6], b[7] = 1, byte(r.Intn(32)), byte(r.Intn(256)>>r.Intn(8))
				checkModel(t, sealed(b))
			}
		}
		checkModel(t, sealed(make([]byte, n)))
		checkModel(t, sealed(bytes.Repeat([]byte{1}, n)))
		checkModel(t, sealed(bytes.Repeat([]byte{0xFF}, n)))
	}
}
