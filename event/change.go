package event

import "baseboard/api"

const (
	thresholdMark = 0x50 // the first data byte of a threshold, without the offset
	lastState     = 14
	noData        = 0xFF
)

// offsets contains the offset of each index of a threshold.
var offsets = [6]uint8{0, 2, 4, 7, 9, 11}

// Threshold returns the event of a change of a threshold.
func Threshold(sensorType, number uint8, index int, asserted bool, reading, limit uint8) (api.Event, api.Errno) {
	if index < 0 || index >= len(offsets) {
		return api.Event{}, api.ErrRange
	}
	e := change(sensorType, number, asserted)
	e.Type = api.TypeThreshold
	e.Data = [3]uint8{thresholdMark + offsets[index], reading, limit}
	return e, api.OK
}

// State returns the event of a change of a discrete state.
func State(sensorType, number uint8, index int, asserted bool) (api.Event, api.Errno) {
	if index < 0 || index > lastState {
		return api.Event{}, api.ErrRange
	}
	e := change(sensorType, number, asserted)
	e.Type = api.TypeState
	e.Data = [3]uint8{uint8(index), noData, noData}
	return e, api.OK
}

// change returns what the events of thresholds and of states have in common.
func change(sensorType, number uint8, asserted bool) api.Event {
	return api.Event{Generator: api.OwnGenerator, SensorType: sensorType, Sensor: number, Deassert: !asserted}
}

// Index returns which threshold or state an event is about.
func Index(e api.Event) (index int, analog bool, ok bool) {
	first := e.Data[0]
	switch e.Type {
	case api.TypeThreshold:
		for i, offset := range offsets {
			if first == thresholdMark+offset {
				return i, true, true
			}
		}
	case api.TypeState:
		if first <= lastState {
			return int(first), false, true
		}
	}
	return 0, false, false
}

// Severity returns how bad an event is.
func Severity(e api.Event) int {
	index, analog, _ := Index(e)
	if !analog || e.Deassert {
		return 0
	}
	// The indices of the upper thresholds follow those of the three lower ones in the same order.
	return index%3 + 1
}
