package eventlog_test

import (
	"fmt"
	"testing"

	"baseboard/api"
	"baseboard/eventlog"
)

func checkReserve(t *testing.T, g *eventlog.Log, want uint16) {
	t.Helper()
	if n := g.Reserve(); n != want {
		t.Errorf("Reserve returns %d, not %d", n, want)
	}
}

// P9.3, P9.7, P9.8: the operations of Clear, with failures at each of their steps.
func TestClear(t *testing.T) {
	w := newWorld(t, deviceWith(t, sector(head(1, 1, 1), slot(sample(1))), nil, nil), false)
	w.clear(t, "one record", opens(2, small, 2, 2, 2, false)...)
	w.check(t, "one record", false)
	w.clear(t, "no record")
	w.check(t, "no record", false)
	w.add(t, "record 2", fresh(2), 2, writes(2, small, 0, sample(2)))
	w.check(t, "record 2", false, samples(2)...)
	w.clear(t, "one record again", opens(3, small, 3, 3, 3, false)...)
	w.add(t, "record 3", fresh(3), 3, writes(3, small, 0, sample(3)))
	w.add(t, "record 4", fresh(4), 4, writes(3, small, 1, sample(4)))
	w.clear(t, "two records", opens(1, small, 4, 4, 5, true)...)
	w.check(t, "two records", false)
	w.add(t, "record 5", fresh(5), 5, writes(1, small, 0, sample(5)))
	w.check(t, "record 5", false, samples(5)...)
}

// P9.7: logs that are full, that overwrite, and of two sectors.
func TestClearOfFullLogs(t *testing.T) {
	for _, overwrite := range []bool{false, true} {
		w := newWorld(t, deviceWith(t, full(4, 3, 4), full(2, 1, 7), full(3, 2, 1)), overwrite)
		w.clear(t, "full", opens(2, small, 5, 5, 7, true)...)
		w.check(t, "full", false)
		w = newWorld(t, deviceWith(t, full(3, 3, 65532), full(2, 2, 4)), overwrite)
		w.clear(t, "two sectors", opens(2, small, 4, 4, 1, true)...)
		w.check(t, "two sectors", false)
		w = newWorld(t, deviceWith(t, full(4, 3, 4), full(5, 4, 7), full(3, 2, 1)), overwrite)
		w.clear(t, "turned", opens(3, small, 6, 6, 10, true)...)
		w.check(t, "turned", false)
		// The newest sector has no records, but the one in front of it has.
		w = newWorld(t, deviceWith(t, full(4, 3, 4), head(5, 4, 70), nil), overwrite)
		w.clear(t, "newest is empty", opens(3, small, 6, 6, 70, false)...)
		w.check(t, "newest is empty", false)
		w.add(t, "newest is empty", fresh(70), 70, writes(3, small, 0, sample(70)))
		w.check(t, "newest is empty", false, samples(70)...)
	}
}

// P9.7: without records nothing is written, also where a new sector could not be opened.
func TestClearWithoutRecords(t *testing.T) {
	bad := make([]byte, 17)
	for name, l := range map[string][][]byte{
		"erased":       {nil, nil},
		"empty":        {head(1, 1, 7), nil},
		"spoiled":      {sector(head(1, 1, 7), bad, bad, bad), nil},
		"cleared":      {full(1, 1, 1), head(2, 2, 4)},
		"not valid":    {make([]byte, small), make([]byte, small)},
		"at the limit": {nil, head(1<<31, 1<<31, 5)},
	} {
		w := newWorld(t, deviceWith(t, l...), false)
		checkReserve(t, w.g, 1)
		w.nothing(t, name, clearing(1), api.OK)
		w.check(t, name, false)
		w.nothing(t, name+", used reservation", clearing(1), api.ErrReservation)
		checkReserve(t, w.g, 2)
	}
}

// P9.6, P9.7: a log that is full of spoiled slots has no records, and Clear writes nothing.
func TestClearOfSpoiledLog(t *testing.T) {
	bad := make([]byte, 17)
	w := newWorld(t, deviceWith(t, sector(head(1, 1, 7), bad, bad, bad), nil), false)
	for range 2 {
		w.nothing(t, "spoiled", adding(fresh(7)), api.ErrFull)
		w.check(t, "spoiled", true)
		n := w.g.Reserve()
		w.nothing(t, "spoiled", clearing(n), api.OK)
		w.check(t, "spoiled", false)
	}
	w = newWorld(t, w.d, true)
	w.add(t, "overwriting", fresh(7), 7, with(opens(2, small, 2, 2, 7, false), writes(2, small, 0, sample(7)))...)
}

// P9.7, R4: sequence numbers at MaxGeneration; the reservation stays, and is looked at first.
func TestClearAtLimit(t *testing.T) {
	const most = 1 << 31
	w := newWorld(t, deviceWith(t, full(most-1, most-1, 3), sector(head(most, most-1, 6), slot(sample(6))), nil), false)
	want := samples(3, 4, 5, 6)
	checkReserve(t, w.g, 1)
	for range 2 {
		w.nothing(t, "at the limit, wrong reservation", clearing(2), api.ErrReservation)
		w.nothing(t, "at the limit", clearing(1), api.ErrLimit)
		w.check(t, "at the limit", false, want...)
	}
	w.add(t, "room", fresh(7), 7, writes(2, small, 1, sample(7)))
	w.add(t, "room", fresh(8), 8, writes(2, small, 2, sample(8)))
	w.nothing(t, "no room", adding(fresh(9)), api.ErrFull)
	w.nothing(t, "full, at the limit", clearing(1), api.ErrLimit)
	w.check(t, "full, at the limit", true, samples(3, 4, 5, 6, 7, 8)...)
	checkReserve(t, w.g, 2)

	w = newWorld(t, deviceWith(t, full(most-1, most-1, 3), nil, nil), false)
	w.clear(t, "one below", opens(2, small, most, most, 6, false)...)
	w.add(t, "one below", fresh(6), 6, writes(2, small, 0, sample(6)))
	n := w.g.Reserve()
	w.nothing(t, "at the limit", clearing(n), api.ErrLimit)
	w.check(t, "at the limit", false, samples(6)...)
}

// P9.7: reservations that are 0, that were never returned, that are old and that are used.
func TestReservations(t *testing.T) {
	for name, x := range logs(t) {
		if name == "at limit" {
			continue
		}
		w := newWorld(t, x.d, false)
		for _, n := range []uint16{0, 1, 2, 65534, 65535} {
			w.nothing(t, name+", without a reservation", clearing(n), api.ErrReservation)
		}
		checkReserve(t, w.g, 1)
		checkReserve(t, w.g, 2)
		checkReserve(t, w.g, 3)
		for _, n := range []uint16{0, 1, 2, 4, 5, 65535} {
			w.nothing(t, name+", an old reservation", clearing(n), api.ErrReservation)
		}
		w.check(t, name, false, x.records...)
		checkErrno(t, name, w.g.Clear(3), api.OK)
		for _, n := range []uint16{0, 1, 2, 3, 4} {
			w.nothing(t, name+", a used reservation", clearing(n), api.ErrReservation)
		}
		id, err := w.g.Add(fresh(1))
		checkErrno(t, name, err, api.OK)
		for _, n := range []uint16{0, 3, 4} {
			w.nothing(t, name+", a used reservation", clearing(n), api.ErrReservation)
		}
		e := fresh(1)
		e.ID = id
		w.check(t, name, false, e)
		checkReserve(t, w.g, 4)
		w.nothing(t, name+", a used reservation", clearing(3), api.ErrReservation)
		checkErrno(t, name, w.g.Clear(4), api.OK)
		w.check(t, name, false)
	}
}

// P9.7: a reservation stays when records are added, and when they are refused.
func TestReservationStays(t *testing.T) {
	w := newWorld(t, deviceWith(t, full(1, 1, 1), full(2, 1, 4), nil), false)
	checkReserve(t, w.g, 1)
	checkAdd(t, "full", w.g, fresh(7), 0, api.ErrFull)
	checkAdd(t, "not valid", w.g, sample(7), 0, api.ErrInvalid)
	checkErrno(t, "full", w.g.Clear(1), api.OK)
	checkReserve(t, w.g, 2)
	for id := range uint16(6) {
		checkAdd(t, "cleared", w.g, fresh(id+7), id+7, api.OK)
	}
	w.check(t, "cleared", false, samples(7, 8, 9, 10, 11, 12)...)
	checkErrno(t, "cleared", w.g.Clear(2), api.OK)
	w.check(t, "cleared again", false)
}

// P9.7: 65535 and 1 follow each other, also over a Clear.
func TestReservationsGoRound(t *testing.T) {
	g := open(t, deviceWith(t, full(1, 1, 1), nil, nil), 1, 3, false)
	for round := range 3 {
		for n := 1; n <= 65535; n++ {
			checkReserve(t, g, uint16(n))
		}
		for _, n := range []uint16{0, 1, 65534} {
			checkErrno(t, "an old reservation", g.Clear(n), api.ErrReservation)
		}
		if round == 1 {
			checkErrno(t, "the greatest reservation", g.Clear(65535), api.OK)
			checkErrno(t, "the greatest reservation again", g.Clear(65535), api.ErrReservation)
			checkErrno(t, "no reservation", g.Clear(0), api.ErrReservation)
		}
	}
	checkReserve(t, g, 1)
	checkErrno(t, "an old reservation", g.Clear(65535), api.ErrReservation)
	checkErrno(t, "no reservation", g.Clear(0), api.ErrReservation)
	checkErrno(t, "the least reservation", g.Clear(1), api.OK)
	checkReserve(t, g, 2)
}

// P9.7: reservations belong to one open log.
func TestReservationsOfOtherLogs(t *testing.T) {
	d := deviceWith(t, full(1, 1, 1), nil, nil)
	a, b := open(t, d, 1, 3, false), open(t, d, 1, 3, false)
	checkReserve(t, a, 1)
	checkErrno(t, "a reservation of another log", b.Clear(1), api.ErrReservation)
	checkReserve(t, a, 2)
	checkReserve(t, b, 1)
	checkErrno(t, "an old reservation", a.Clear(1), api.ErrReservation)
	checkErrno(t, "an own reservation", b.Clear(1), api.OK)
	c := open(t, d, 1, 3, false)
	checkErrno(t, "a reservation of a log that was open before", c.Clear(1), api.ErrReservation)
	checkReserve(t, c, 1)
	checkErrno(t, "an own reservation", c.Clear(1), api.OK)
}

// P9.6: Full over Open, Clear, and calls that return other errors.
func TestFull(t *testing.T) {
	d := deviceWith(t, full(1, 1, 1), full(2, 1, 4), nil)
	g := open(t, d, 1, 3, false)
	for i, x := range []struct {
		call func(*eventlog.Log) api.Errno
		want api.Errno
		full bool
	}{
		{clearing(1), api.ErrReservation, false},
		{adding(sample(7)), api.ErrInvalid, false},
		{adding(fresh(7)), api.ErrFull, true},
		{adding(sample(7)), api.ErrInvalid, true},
		{clearing(1), api.ErrReservation, true},
		{func(g *eventlog.Log) api.Errno { g.Reserve(); return api.OK }, api.OK, true},
		{adding(fresh(7)), api.ErrFull, true},
		{clearing(1), api.OK, false},
		{clearing(1), api.ErrReservation, false},
		{adding(fresh(7)), api.OK, false},
		{adding(fresh(8)), api.OK, false},
		{adding(fresh(9)), api.OK, false},
		{adding(fresh(10)), api.OK, false},
		{adding(fresh(11)), api.OK, false},
		{adding(fresh(12)), api.OK, false},
		{adding(fresh(13)), api.ErrFull, true},
	} {
		what := fmt.Sprintf("call %d", i)
		checkErrno(t, what, x.call(g), x.want)
		if g.Full() != x.full {
			t.Errorf("%s: Full is %t", what, g.Full())
		}
	}
	checkLog(t, "opened again", open(t, d, 1, 3, false), false, samples(7, 8, 9, 10, 11, 12)...)
	g = open(t, d, 1, 3, true)
	for id := range uint16(20) {
		checkAdd(t, "overwriting", g, fresh(id+13), id+13, api.OK)
		if g.Full() {
			t.Errorf("Full is true with overwrite")
		}
	}
}

// P9.7: a Clear that fails and that is made again on the restored device.
func TestClearAfterFailure(t *testing.T) {
	for step := 1; step <= 13; step++ {
		for _, torn := range torns {
			for _, l := range [][][]byte{{full(1, 1, 1), nil, nil}, {full(4, 3, 4), full(2, 1, 7), full(3, 2, 1)}} {
				what := fmt.Sprintf("step %d, torn %02X", step, torn)
				x := newRun(t, deviceWith(t, l...), 1, 3, false)
				n := x.reserve(t, what)
				x.d.Arm(step, torn)
				x.clear(t, what, n)
				x.reopen(t, what)
				x.clear(t, what, x.reserve(t, what))
				x.add(t, what, fresh(3))
				if t.Failed() {
					t.FailNow()
				}
			}
		}
	}
}
