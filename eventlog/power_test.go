package eventlog_test

import (
	"fmt"
	"math/rand"
	"slices"
	"testing"

	"baseboard/api"
	"baseboard/eventlog"
	"baseboard/flash"
)

// world is a device with a log that stays open on it.
type world struct {
	d              *flash.Device
	first, sectors int
	overwrite      bool
	g              *eventlog.Log
}

// newWorld opens a log in the inner sectors of a device.
func newWorld(t *testing.T, d *flash.Device, overwrite bool) *world {
	t.Helper()
	sectors := d.Sectors() - 2
	return &world{d, 1, sectors, overwrite, open(t, d, 1, sectors, overwrite)}
}

// add makes an Add and checks that it is exactly the given operations, one after the other, also with power failures at each of their steps.
func (w *world) add(t *testing.T, what string, e api.Event, id uint16, want ...operation) {
	t.Helper()
	w.change(t, what, func(g *eventlog.Log) api.Errno {
		n, err := g.Add(e)
		if err == api.OK && n != id || err != api.OK && n != 0 {
			t.Errorf("%s: the ID is %d, not %d, with error %d", what, n, id, err)
		}
		return err
	}, want, func(after []api.Event) []api.Event { return after[:len(after)-1] })
}

// clear does the same with a Clear.
func (w *world) clear(t *testing.T, what string, want ...operation) {
	t.Helper()
	w.change(t, what, func(g *eventlog.Log) api.Errno { return g.Clear(g.Reserve()) }, want, func([]api.Event) []api.Event { return nil })
	checkLog(t, what, w.g, false)
}

// change makes a call, which has to be the given operations; opened returns the records when only a new sector has been opened, if the call opens one.
func (w *world) change(t *testing.T, what string, call func(*eventlog.Log) api.Errno, want []operation, opened func(after []api.Event) []api.Event) {
	t.Helper()
	old, before := w.d.Clone(), w.g.Records()
	checkErrno(t, what, call(w.g), api.OK)
	after := w.g.Records()
	plain := old.Clone()
	runAll(plain, want)
	checkSame(t, what, w.d, plain)

	again := old.Clone()
	g := open(t, again, w.first, w.sectors, w.overwrite)
	again.Arm(countSteps(want)+1, 0)
	checkErrno(t, what+", failing at the step after it", call(g), api.OK)
	checkSame(t, what+", of a log that was opened again", again, plain)
	if t.Failed() {
		t.FailNow()
	}
	f := failure{call: call, want: want, before: before, opened: opened(after), after: after}
	for step := 1; step <= countSteps(want); step++ {
		for _, torn := range torns {
			w.fail(t, fmt.Sprintf("%s, failing at step %d with torn %02X", what, step, torn), old.Clone(), f, step, torn)
			if t.Failed() {
				t.FailNow()
			}
		}
	}
}

// failure is a call that fails, and the records before it, with only a new sector opened, and after it.
type failure struct {
	call                  func(*eventlog.Log) api.Errno
	want                  []operation
	before, opened, after []api.Event
}

// records returns which records there are after a failure.
func (f failure) records(step int, torn uint8) []api.Event {
	status := 0 // the step that makes the header of a new sector valid
	for i, o := range f.want {
		if len(o.bytes) == 1 {
			status = countSteps(f.want[:i+1])
		}
	}
	// The last step is done completely when nothing of it is torn.
	if torn == 0 {
		step++
	}
	if step > countSteps(f.want) {
		return f.after
	}
	if status > 0 && step > status {
		return f.opened
	}
	return f.before
}

// fail makes a call whose power fails at a step.
func (w *world) fail(t *testing.T, what string, d *flash.Device, f failure, step int, torn uint8) {
	t.Helper()
	plain := d.Clone()
	g := open(t, d, w.first, w.sectors, w.overwrite)
	d.Arm(step, torn)
	checkErrno(t, what, f.call(g), api.ErrPower)
	plain.Arm(step, torn)
	runAll(plain, f.want)
	checkSame(t, what, d, plain)
	checkEnded(t, what, g, d)
	d.Restore()
	checkEnded(t, what+", restored", g, d)
	checkLog(t, what, open(t, d, w.first, w.sectors, w.overwrite), false, f.records(step, torn)...)
}

// check checks the log, and another one that is opened on the device.
func (w *world) check(t *testing.T, what string, isFull bool, want ...api.Event) {
	t.Helper()
	checkLog(t, what, w.g, isFull, want...)
	checkLog(t, what+", opened again", open(t, w.d, w.first, w.sectors, w.overwrite), false, want...)
}

// nothing checks that a call returns an error and changes nothing on the device.
func (w *world) nothing(t *testing.T, what string, call func(*eventlog.Log) api.Errno, want api.Errno) {
	t.Helper()
	before, l := w.d.Clone(), w.g.Records()
	w.d.Arm(1, 0)
	before.Arm(1, 0)
	checkErrno(t, what, call(w.g), want)
	checkSame(t, what, w.d, before)
	if n := stepsLeft(w.d, 2); n != 1 {
		t.Errorf("%s: the power fails at step %d", what, n)
	}
	w.d.Arm(0, 0)
	if !slices.Equal(w.g.Records(), l) {
		t.Errorf("%s: the records were %v and are %v", what, l, w.g.Records())
	}
}

func adding(e api.Event) func(*eventlog.Log) api.Errno {
	return func(g *eventlog.Log) api.Errno {
		_, err := g.Add(e)
		return err
	}
}

func clearing(reservation uint16) func(*eventlog.Log) api.Errno {
	return func(g *eventlog.Log) api.Errno { return g.Clear(reservation) }
}

// P9.4, P9.7, P9.8: a call on a device that is down ends the log, whatever its argument.
func TestCallOnDeviceThatIsDown(t *testing.T) {
	for name, x := range logs(t) {
		for i, call := range []func(*eventlog.Log) api.Errno{adding(fresh(1)), adding(sample(1)), adding(api.Event{Type: 0xFF}), clearing(0), clearing(1), clearing(2)} {
			what := fmt.Sprintf("%s, call %d", name, i)
			d := x.d.Clone()
			g := open(t, d, 1, 3, false)
			g.Reserve()
			takeDown(t, d)
			before := d.Clone()
			checkLog(t, what+", not ended yet", g, false, x.records...)
			checkErrno(t, what, call(g), api.ErrPower)
			checkSame(t, what, d, before)
			checkEnded(t, what, g, d)
			d.Restore()
			checkEnded(t, what+", restored", g, d)
			checkLog(t, what+", opened again", open(t, d, 1, 3, false), false, x.records...)
		}
	}
}

// P9.8: a failure that is over before the log meets it does not end it.
func TestFailureThatTheLogDoesNotMeet(t *testing.T) {
	w := newWorld(t, deviceWith(t, sector(head(1, 1, 1), slot(sample(1))), nil, nil), false)
	checkErrno(t, "the first Clear", w.g.Clear(7), api.ErrReservation)
	n := w.g.Reserve()
	takeDown(t, w.d)
	if e, next, err := w.g.Get(1); e != sample(1) || next != 0 || err != api.OK {
		t.Errorf("Get on a device that is down is %v, %d, error %d", e, next, err)
	}
	w.d.Restore()
	w.add(t, "Add", fresh(2), 2, writes(1, small, 1, sample(2)))
	w.check(t, "Add", false, samples(1, 2)...)
	checkErrno(t, "Clear with a reservation from before", w.g.Clear(n), api.OK)
	w.check(t, "Clear", false)
}

// P9.8: a log that was full, that had reservations, and that has ended.
func TestEndOfFullLog(t *testing.T) {
	for _, call := range []func(*eventlog.Log) api.Errno{adding(fresh(1)), clearing(2)} {
		d := deviceWith(t, full(1, 1, 1), full(2, 1, 4), nil)
		g := open(t, d, 1, 3, false)
		checkAdd(t, "full", g, fresh(7), 0, api.ErrFull)
		checkLog(t, "full", g, true, samples(1, 2, 3, 4, 5, 6)...)
		g.Reserve()
		g.Reserve()
		takeDown(t, d)
		if !g.Full() || g.Reserve() != 3 {
			t.Errorf("the log has ended before it was used")
		}
		checkErrno(t, "full", call(g), api.ErrPower)
		checkEnded(t, "full", g, d)
	}
}

// P9.8: a log that has ended does not end another one on the same device.
func TestEndOfOneLog(t *testing.T) {
	d := newDevice(t, 4, small)
	a, b := open(t, d, 0, 2, false), open(t, d, 2, 2, false)
	checkAdd(t, "a", a, fresh(1), 1, api.OK)
	checkAdd(t, "b", b, fresh(1), 1, api.OK)
	d.Arm(5, 0xFF)
	checkAdd(t, "a", a, fresh(2), 0, api.ErrPower)
	checkEnded(t, "a", a, d)
	checkLog(t, "b", b, false, samples(1)...)
	d.Restore()
	checkEnded(t, "a", a, d)
	checkAdd(t, "b", b, fresh(2), 2, api.OK)
	checkLog(t, "b", b, false, samples(1, 2)...)
	checkLog(t, "a again", open(t, d, 0, 2, false), false, samples(1)...)
}

// P9.4, P9.8: what Add does after a failure at each step of an Add that opened a sector, and of one that did not.
func TestAddAfterFailure(t *testing.T) {
	for step := 1; step <= 29; step++ {
		for _, torn := range torns {
			for _, overwrite := range []bool{false, true} {
				what := fmt.Sprintf("step %d, torn %02X, overwrite %t", step, torn, overwrite)
				x := newRun(t, deviceWith(t, full(1, 1, 1), nil, full(3, 3, 5)), 1, 3, overwrite)
				x.add(t, what, fresh(8))
				x.reopen(t, what)
				x = newRun(t, deviceWith(t, full(4, 3, 4), full(2, 1, 7), full(3, 2, 1)), 1, 3, overwrite)
				x.d.Arm(step, torn)
				for range 9 {
					x.add(t, what, fresh(20))
					if x.ended {
						x.reopen(t, what)
					}
				}
				if t.Failed() {
					t.FailNow()
				}
			}
		}
	}
}

// P9.3, P9.4: a slot that a failure spoiled is not used again, and the next ID is that which was not given.
func TestAddBehindSpoiledSlot(t *testing.T) {
	for step := 2; step <= 17; step++ {
		d := deviceWith(t, nil, nil, nil)
		g := open(t, d, 1, 3, false)
		checkAdd(t, "first", g, fresh(1), 1, api.OK)
		d.Arm(step, 0x7F)
		checkAdd(t, "failing", g, fresh(9), 0, api.ErrPower)
		d.Restore()
		w := newWorld(t, d, false)
		w.add(t, "behind the spoiled slot", fresh(2), 2, writes(1, small, 2, sample(2)))
		w.check(t, "behind the spoiled slot", false, samples(1, 2)...)
	}
}

// P9.3: a sector that could not be opened is erased before it is opened again, with the same sequence number.
func TestOpenSectorAgain(t *testing.T) {
	for step := 1; step <= 11; step++ {
		d := deviceWith(t, full(1, 1, 1), nil, nil)
		g := open(t, d, 1, 3, false)
		d.Arm(step, 0x7F)
		checkAdd(t, "failing", g, fresh(9), 0, api.ErrPower)
		d.Restore()
		w := newWorld(t, d, false)
		l := opens(2, small, 2, 1, 4, true)
		w.add(t, fmt.Sprintf("after a failure at step %d", step), fresh(4), 4, append(l, writes(2, small, 0, sample(4)))...)
		w.check(t, "opened again", false, samples(1, 2, 3, 4)...)
	}
}

// Consequences: a failure at each step of Adds and Clears of drawn logs, each with bits that are drawn.
func TestFailuresAtEachStep(t *testing.T) {
	calls := 0
	for seed := range int64(400) {
		r := rand.New(rand.NewSource(seed))
		sectors := 2 + r.Intn(4)
		var l [][]byte
		for j := range sectors {
			l = append(l, drawSector(r, j, sectors, small, 10))
		}
		w := newWorld(t, deviceWith(t, l...), r.Intn(4) != 0)
		for i := range 2 {
			d, e := w.d.Clone(), drawEvent(r)
			call := adding(e)
			if i == 1 {
				call = func(g *eventlog.Log) api.Errno { return g.Clear(g.Reserve()) }
			}
			before := w.g.Records()
			if call(w.g) != api.OK {
				continue
			}
			calls++
			checkFailures(t, fmt.Sprintf("seed %d, call %d", seed, i), r, w, d, call, before)
		}
	}
	if calls < 400 {
		t.Errorf("only %d calls", calls)
	}
}

// checkFailures compares the records after failures of a call on copies of a device with those before the call and after it.
func checkFailures(t *testing.T, what string, r *rand.Rand, w *world, d *flash.Device, call func(*eventlog.Log) api.Errno, before []api.Event) {
	t.Helper()
	after := w.g.Records()
	rest := after
	if len(after) > 0 {
		rest = after[:len(after)-1]
	}
	for step := 1; step <= w.d.Steps()-d.Steps(); step++ {
		c := d.Clone()
		g := open(t, c, w.first, w.sectors, w.overwrite)
		c.Arm(step, uint8(r.Intn(256)))
		checkErrno(t, what, call(g), api.ErrPower)
		c.Restore()
		l := open(t, c, w.first, w.sectors, w.overwrite).Records()
		if !slices.Equal(l, before) && !slices.Equal(l, after) && !slices.Equal(l, rest) {
			t.Errorf("%s, step %d: the records were %v and are %v", what, step, before, l)
		}
	}
}
