package event_test

import (
	"fmt"
	"math"
	"math/rand"
	"strconv"
	"testing"

	"baseboard/api"
	"baseboard/event"
)

func itoa(n int) string { return strconv.Itoa(n) }

// firstBytes are the first data bytes of the thresholds, in the order of their indices.
var firstBytes = []uint8{0x50, 0x52, 0x54, 0x57, 0x59, 0x5B}

// outside are indices that no threshold and no state has.
func outside() []int {
	l := []int{-1, 15, math.MinInt, math.MaxInt, math.MinInt32, math.MaxInt32, 1 << 32, 1<<32 + 3, -1 << 32, 255, 256, 257, 259, -255, -256, 65536, 1 << 40}
	for n := range 1000 {
		l = append(l, -1-n, 15+n)
	}
	return l
}

func checkThreshold(t *testing.T, sensorType, number uint8, index int, asserted bool, reading, limit uint8, want api.Event, wantError api.Errno) {
	t.Helper()
	if e, err := event.Threshold(sensorType, number, index, asserted, reading, limit); e != want || err != wantError {
		t.Errorf("Threshold(%d, %d, %d, %t, %d, %d) is %+v, error %d, not %+v, error %d", sensorType, number, index, asserted, reading, limit, e, err, want, wantError)
	}
}

func checkState(t *testing.T, sensorType, number uint8, index int, asserted bool, want api.Event, wantError api.Errno) {
	t.Helper()
	if e, err := event.State(sensorType, number, index, asserted); e != want || err != wantError {
		t.Errorf("State(%d, %d, %d, %t) is %+v, error %d, not %+v, error %d", sensorType, number, index, asserted, e, err, want, wantError)
	}
}

func checkIndex(t *testing.T, e api.Event, index int, analog, ok bool) {
	t.Helper()
	if gotIndex, gotAnalog, gotOK := event.Index(e); gotIndex != index || gotAnalog != analog || gotOK != ok {
		t.Errorf("Index of %+v is %d, %t, %t, not %d, %t, %t", e, gotIndex, gotAnalog, gotOK, index, analog, ok)
	}
}

func checkSeverity(t *testing.T, e api.Event, want int) {
	t.Helper()
	if got := event.Severity(e); got != want {
		t.Errorf("Severity of %+v is %d, not %d", e, got, want)
	}
}

// P7.5
func TestThresholdOfEachIndex(t *testing.T) {
	for index, first := range firstBytes {
		for v := range 256 {
			x := uint8(v)
			for _, asserted := range []bool{false, true} {
				want := api.Event{Generator: 0x20, SensorType: 1, Sensor: 2, Type: 1, Deassert: !asserted, Data: [3]uint8{first, 3, 4}}
				checkThreshold(t, 1, 2, index, asserted, 3, 4, want, api.OK)
				byType, byNumber, byReading, byLimit := want, want, want, want
				byType.SensorType, byNumber.Sensor, byReading.Data[1], byLimit.Data[2] = x, x, x, x
				checkThreshold(t, x, 2, index, asserted, 3, 4, byType, api.OK)
				checkThreshold(t, 1, x, index, asserted, 3, 4, byNumber, api.OK)
				checkThreshold(t, 1, 2, index, asserted, x, 4, byReading, api.OK)
				checkThreshold(t, 1, 2, index, asserted, 3, x, byLimit, api.OK)
			}
		}
	}
}

// P7.5
func TestThresholdOfOtherIndices(t *testing.T) {
	l := outside()
	for index := 6; index < 15; index++ {
		l = append(l, index)
	}
	for _, index := range l {
		for _, asserted := range []bool{false, true} {
			checkThreshold(t, 1, 2, index, asserted, 3, 4, api.Event{}, api.ErrRange)
			checkThreshold(t, 0, 0, index, asserted, 0, 0, api.Event{}, api.ErrRange)
			checkThreshold(t, 255, 255, index, asserted, 255, 255, api.Event{}, api.ErrRange)
		}
	}
}

// P7.6
func TestStateOfEachIndex(t *testing.T) {
	for index := range 15 {
		for v := range 256 {
			x := uint8(v)
			for _, asserted := range []bool{false, true} {
				want := api.Event{Generator: 0x20, SensorType: x, Sensor: 2, Type: 0x6F, Deassert: !asserted, Data: [3]uint8{uint8(index), 0xFF, 0xFF}}
				checkState(t, x, 2, index, asserted, want, api.OK)
				want.SensorType, want.Sensor = 1, x
				checkState(t, 1, x, index, asserted, want, api.OK)
			}
		}
	}
}

// P7.6
func TestStateOfOtherIndices(t *testing.T) {
	for _, index := range outside() {
		for _, asserted := range []bool{false, true} {
			checkState(t, 1, 2, index, asserted, api.Event{}, api.ErrRange)
			checkState(t, 0, 0, index, asserted, api.Event{}, api.ErrRange)
			checkState(t, 255, 255, index, asserted, api.Event{}, api.ErrRange)
		}
	}
}

// P7.5 and P7.6: what is made is valid, is in no log, and is encoded and formatted like others.
func TestMadeEventsAreValid(t *testing.T) {
	for index := range 15 {
		for _, asserted := range []bool{false, true} {
			for v := range 256 {
				x := uint8(v)
				e, _ := event.State(x, ^x, index, asserted)
				l := []api.Event{e}
				if index < 6 {
					e, _ = event.Threshold(x, ^x, index, asserted, x/2, x*3)
					l = append(l, e)
				}
				for _, e := range l {
					if !event.Valid(e) || e.ID != 0 || e.Time != 0 {
						t.Errorf("%+v was made", e)
					}
					checkEncode(t, e, encoded(e), api.OK)
					checkDecode(t, encoded(e), e, api.OK)
					checkFormat(t, e, formatted(e), api.OK)
					checkParse(t, formatted(e), e, api.OK)
				}
			}
		}
	}
}

// wantIndex is what P7.7 says of an event.
func wantIndex(e api.Event) (index int, analog, ok bool) {
	if e.Type == 0x01 {
		for i, first := range firstBytes {
			if e.Data[0] == first {
				return i, true, true
			}
		}
	}
	if e.Type == 0x6F && e.Data[0] < 15 {
		return int(e.Data[0]), false, true
	}
	return 0, false, false
}

func wantSeverity(e api.Event) int {
	index, analog, ok := wantIndex(e)
	if !ok || !analog || e.Deassert {
		return 0
	}
	return []int{1, 2, 3, 1, 2, 3}[index]
}

// P7.7: each Type with each first data byte, in events that differ in everything else, also in events that are not valid.
func TestIndexAndSeverityOfEachTypeAndByte(t *testing.T) {
	others := []api.Event{
		{},
		{Generator: 32, SensorType: 1, Sensor: 5, Data: [3]uint8{0, 0x57, 0x50}},
		{ID: 65534, Time: 4294967294, Generator: 65535, SensorType: 255, Sensor: 255, Data: [3]uint8{0, 255, 255}},
		{ID: 65535, Time: 4294967295, Generator: 1, SensorType: 0x6F, Sensor: 0x01, Data: [3]uint8{0, 0x50, 0x0E}},
		{Data: [3]uint8{0, 0x54, 0x5B}},
	}
	counts := map[string]int{}
	for eventType := range 256 {
		for first := range 256 {
			for _, e := range others {
				for _, deassert := range []bool{false, true} {
					e.Type, e.Deassert, e.Data[0] = uint8(eventType), deassert, uint8(first)
					index, analog, ok := wantIndex(e)
					checkIndex(t, e, index, analog, ok)
					checkSeverity(t, e, wantSeverity(e))
					counts[fmt.Sprint(analog, ok)]++
				}
			}
		}
	}
	n := 2 * len(others)
	if counts["true true"] != 6*n || counts["false true"] != 15*n || counts["false false"] != (65536-21)*n {
		t.Errorf("the kinds are %v", counts)
	}
}

// P7.7
func TestIndexAndSeverityOfMadeEvents(t *testing.T) {
	for index, severity := range []int{1, 2, 3, 1, 2, 3} {
		for v := range 256 {
			x := uint8(v)
			e, err := event.Threshold(x, 7, index, true, x, ^x)
			if err != api.OK {
				t.Errorf("error %d", err)
			}
			checkIndex(t, e, index, true, true)
			checkSeverity(t, e, severity)
			e, _ = event.Threshold(x, 7, index, false, x, ^x)
			checkIndex(t, e, index, true, true)
			checkSeverity(t, e, 0)
		}
	}
	for index := range 15 {
		for _, asserted := range []bool{false, true} {
			e, err := event.State(8, 9, index, asserted)
			if err != api.OK {
				t.Errorf("error %d", err)
			}
			checkIndex(t, e, index, false, true)
			checkSeverity(t, e, 0)
		}
	}
}

// P7.7: the bytes that belong to the other Type.
func TestIndexOfBytesOfTheOtherType(t *testing.T) {
	for _, first := range firstBytes {
		checkIndex(t, api.Event{Type: 0x6F, Data: [3]uint8{first}}, 0, false, false)
		checkSeverity(t, api.Event{Type: 0x6F, Data: [3]uint8{first}}, 0)
	}
	for first := range uint8(15) {
		checkIndex(t, api.Event{Type: 0x01, Data: [3]uint8{first}}, 0, false, false)
		checkSeverity(t, api.Event{Type: 0x01, Data: [3]uint8{first}}, 0)
	}
}

// P7.7
func TestIndexAndSeverityOfDrawnEvents(t *testing.T) {
	r := rand.New(rand.NewSource(77))
	counts := map[int]int{}
	for range 100000 {
		e := draw(r)
		if r.Intn(2) == 0 {
			e.Data[0] = append([]uint8{0, 7, 14, 15, 0x51, 0x53, 0x5A, 0x5C}, firstBytes...)[r.Intn(14)]
		}
		index, analog, ok := wantIndex(e)
		checkIndex(t, e, index, analog, ok)
		checkSeverity(t, e, wantSeverity(e))
		counts[wantSeverity(e)]++
	}
	for severity := range 4 {
		if counts[severity] < 500 {
			t.Errorf("the severities are %v", counts)
		}
	}
}

func Example() {
	e, err := event.Threshold(1, 5, api.UpperCritical, true, 0x57, 0x50)
	fmt.Printf("% X %d\n", e.Data, err)
	s, err := event.Format(e)
	fmt.Println(s, err)
	fmt.Println(event.Severity(e))
	fmt.Println(event.Index(e))
	b, err := event.Encode(e)
	fmt.Printf("% X %d\n", b, err)
	again, err := event.Parse(s)
	fmt.Println(again == e, err)
	// Output:
	// 59 57 50 0
	// 0 0 32 1 5 1 + 595750 threshold 0
	// 2
	// 4 true true
	// 00 00 02 00 00 00 00 20 00 04 01 05 01 59 57 50 0
	// true 0
}
