package eventlog_test

import (
	"fmt"
	"testing"

	"baseboard/api"
	"baseboard/eventlog"
)

func checkAnswer(t *testing.T, g *eventlog.Log, id uint16, e api.Event, next uint16, want api.Errno) {
	t.Helper()
	if got, n, err := g.Get(id); got != e || n != next || err != want {
		t.Errorf("Get of %d is %v, %d, error %d, not %v, %d, %d", id, got, n, err, e, next, want)
	}
}

// P9.5: written down by hand.
func TestKnownRecords(t *testing.T) {
	g := open(t, deviceWith(t, full(1, 1, 7), sector(head(2, 1, 1), slot(sample(30)), slot(sample(10))), nil), 1, 3, false)
	checkAnswer(t, g, 0, sample(7), 8, api.OK)
	checkAnswer(t, g, 7, sample(7), 8, api.OK)
	checkAnswer(t, g, 8, sample(8), 9, api.OK)
	checkAnswer(t, g, 9, sample(9), 30, api.OK)
	checkAnswer(t, g, 30, sample(30), 10, api.OK)
	checkAnswer(t, g, 10, sample(10), 0, api.OK)
	for _, id := range []uint16{1, 6, 11, 29, 31, 7777, 8888, 65534, 65535} {
		checkAnswer(t, g, id, api.Event{}, 0, api.ErrMissing)
	}
}

// P9.5: an ID that is there twice, and three times, also as the first and as the last record.
func TestIDThatIsThereTwice(t *testing.T) {
	other := func(id uint16, n uint8) api.Event {
		e := sample(id)
		e.Sensor = n
		return e
	}
	d := deviceWith(t,
		sector(head(1, 1, 1), slot(other(5, 1)), slot(other(6, 2)), slot(other(5, 3))),
		sector(head(2, 1, 1), slot(other(7, 4)), slot(other(6, 5)), slot(other(5, 6))), nil)
	g := open(t, d, 1, 3, true)
	checkAnswer(t, g, 0, other(5, 1), 6, api.OK)
	checkAnswer(t, g, 5, other(5, 1), 6, api.OK)
	checkAnswer(t, g, 6, other(6, 2), 5, api.OK)
	checkAnswer(t, g, 7, other(7, 4), 6, api.OK)
	checkLog(t, "twice", g, false, other(5, 1), other(6, 2), other(5, 3), other(7, 4), other(6, 5), other(5, 6))
	checkAdd(t, "overwriting", g, fresh(6), 6, api.OK)
	checkAnswer(t, g, 0, other(7, 4), 6, api.OK)
	checkAnswer(t, g, 6, other(6, 5), 5, api.OK)
	checkAnswer(t, g, 5, other(5, 6), 6, api.OK)

	g = open(t, deviceWith(t, sector(head(1, 1, 1), slot(other(5, 1)), slot(other(5, 2))), nil), 1, 2, true)
	checkAnswer(t, g, 0, other(5, 1), 5, api.OK)
	checkAnswer(t, g, 5, other(5, 1), 5, api.OK)
}

// P9.5: all IDs, of logs with records, without, and cleared.
func TestAllIDs(t *testing.T) {
	var all []uint16
	for id := range 65536 {
		all = append(all, uint16(id))
	}
	for name, x := range logs(t) {
		g := open(t, x.d, 1, 3, false)
		checkGet(t, name, g, all, x.records)
	}
	g := open(t, deviceWith(t, full(1, 1, 7), full(2, 1, 65532), nil), 1, 3, true)
	checkGet(t, "full", g, all, samples(7, 8, 9, 65532, 65533, 65534))
	checkAdd(t, "full", g, fresh(1), 1, api.OK)
	checkGet(t, "overwritten", g, all, samples(65532, 65533, 65534, 1))
	checkErrno(t, "Clear", g.Clear(g.Reserve()), api.OK)
	checkGet(t, "cleared", g, all, nil)
	checkAdd(t, "cleared", g, fresh(2), 2, api.OK)
	checkGet(t, "one record", g, all, samples(2))
}

// P9.5: the records can be read one after the other.
func TestWalk(t *testing.T) {
	d := newDevice(t, 4, 200)
	g := open(t, d, 0, 4, true)
	for i := range 100 {
		checkAdd(t, "Add", g, fresh(uint16(i+1)), uint16(i+1), api.OK)
		var walked []api.Event
		id := uint16(0)
		for range 101 {
			e, next, err := g.Get(id)
			checkErrno(t, "Get", err, api.OK)
			walked = append(walked, e)
			if next == 0 {
				break
			}
			id = next
		}
		checkLog(t, fmt.Sprintf("after %d", i), g, false, walked...)
	}
}
