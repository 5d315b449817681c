package clock

import (
	"baseboard/api"
	"baseboard/event"
)

const (
	timeChanged = 5 // the state of which the events of a change tell

	sideAt     = 1 // the data byte in which the two events of a change differ
	firstSide  = 0x00
	secondSide = 0x80
)

// Adjust sets the time, and returns the two events of the change.
func Adjust(c api.Clock, seconds uint32) (api.Clock, []api.Event, api.Errno) {
	if !Valid(c) {
		return api.Clock{}, nil, api.ErrInvalid
	}
	if seconds > api.MaxSeconds {
		return api.Clock{}, nil, api.ErrRange
	}
	events := []api.Event{changeEvent(firstSide, timeOf(c)), changeEvent(secondSide, seconds)}
	c.Base = int64(seconds) - secondsOf(c)
	c.Set = true
	return c, events, api.OK
}

// changeEvent returns the event of one side of a change.
func changeEvent(side uint8, time uint32) api.Event {
	e, _ := event.State(api.SensorClock, 0, timeChanged, true)
	e.Data[sideAt] = side
	e.Time = time
	return e
}

// Reconcile returns the times of events as the clock counts at the end.
func Reconcile(l []api.Event) ([]int64, api.Errno) {
	if !arePaired(l) {
		return nil, api.ErrForm
	}
	times := make([]int64, len(l))
	// From the end on, because an event is moved by the changes behind it.
	shift := int64(0)
	for i := len(l) - 1; i >= 0; i-- {
		times[i] = int64(l[i].Time) + shift
		if isSecond(l[i]) {
			shift += int64(l[i].Time) - int64(l[i-1].Time)
		}
	}
	return times, api.OK
}

// arePaired reports whether each first event of a change stands directly before a second one, and each second one directly behind a first one.
func arePaired(l []api.Event) bool {
	afterFirst := false
	for _, e := range l {
		if isSecond(e) != afterFirst {
			return false
		}
		afterFirst = isFirst(e)
	}
	return !afterFirst
}

func isFirst(e api.Event) bool {
	return isSide(e, firstSide)
}

func isSecond(e api.Event) bool {
	return isSide(e, secondSide)
}

// isSide compares only what tells that an event is one side of a change.
func isSide(e api.Event, side uint8) bool {
	c := changeEvent(side, 0)
	return e.SensorType == c.SensorType && e.Type == c.Type && e.Deassert == c.Deassert && e.Data == c.Data
}
