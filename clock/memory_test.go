package clock_test

import (
	"math/rand"
	"slices"
	"testing"

	"baseboard/api"
	"baseboard/clock"
)

// lists are events with and without complete changes.
func lists() [][]api.Event {
	l := [][]api.Event{
		nil,
		{other(1)},
		{other(1), first(2), second(1000), other(1005)},
		{first(9), second(3), first(4), second(8)},
		{first(1)},
		{second(1)},
		{other(1), first(2), other(3), second(4)},
		{first(1), second(2), second(3)},
	}
	r := rand.New(rand.NewSource(89))
	for range 500 {
		l = append(l, drawList(r))
	}
	return l
}

// R2: of events that lie in a longer array, also of those that are refused.
func TestReconcileNeitherChangesNorKeepsEvents(t *testing.T) {
	for _, l := range lists() {
		array := append(slices.Clone(l), second(5), first(6), other(7))
		before := slices.Clone(array)
		times, e := clock.Reconcile(array[:len(l)])
		if !slices.Equal(array, before) {
			t.Errorf("%+v became %+v", before, array)
		}
		clear(array)
		if want, wantError := wantReconciled(l); !slices.Equal(times, want) || e != wantError {
			t.Errorf("the times of %+v became %d, error %d", l, times, e)
		}
	}
}

// R2
func TestTimesOfReconcileAreNewEachTime(t *testing.T) {
	for _, l := range lists() {
		times, _ := clock.Reconcile(l)
		again, _ := clock.Reconcile(l)
		clear(times[:cap(times)])
		want, wantError := wantReconciled(l)
		if !slices.Equal(again, want) {
			t.Errorf("two lists of times of %+v share memory: %d", l, again)
		}
		clear(again[:cap(again)])
		checkReconcile(t, l, want, wantError)
	}
}

// R2
func TestEventsOfAdjustAreNewEachTime(t *testing.T) {
	for _, c := range edges() {
		_, events, _ := clock.Adjust(c, 1000)
		_, again, _ := clock.Adjust(c, 1000)
		clear(events[:cap(events)])
		want, wantEvents, wantError := wantAdjusted(c, 1000)
		if !slices.Equal(again, wantEvents) {
			t.Errorf("two changes of %+v share memory: %+v", c, again)
		}
		clear(again[:cap(again)])
		checkAdjust(t, c, 1000, want, wantEvents, wantError)
	}
}

// R7: the results do not depend on the calls that were made before.
func TestResultsDependOnlyOnArguments(t *testing.T) {
	type results struct {
		valid              bool
		time               uint32
		advanced, adjusted api.Clock
		changes            [2]api.Event
		reconciled         [4]int64
		errors             [4]api.Errno
	}
	call := func(c api.Clock, ticks int64, seconds uint32) results {
		var r results
		var events []api.Event
		var times []int64
		r.valid = clock.Valid(c)
		r.time, r.errors[0] = clock.Stamp(c)
		r.advanced, r.errors[1] = clock.Advance(c, ticks)
		r.adjusted, events, r.errors[2] = clock.Adjust(c, seconds)
		copy(r.changes[:], events)
		times, r.errors[3] = clock.Reconcile(append([]api.Event{other(seconds), first(uint32(ticks))}, events[min(len(events), 1):]...))
		copy(r.reconciled[:], times)
		return r
	}
	l := append(edges(), drawn(90, 2000)...)
	ticksOf := func(i int) int64 { return int64(i%7)*1000 - 1 }
	secondsOf := func(i int) uint32 { return lastSecond + 1 - uint32(i%5) }
	var before []results
	for i, c := range l {
		before = append(before, call(c, ticksOf(i), secondsOf(i)))
	}
	r := rand.New(rand.NewSource(91))
	for range 3 {
		for _, i := range r.Perm(len(l)) {
			if got := call(l[i], ticksOf(i), secondsOf(i)); got != before[i] {
				t.Errorf("%+v: the results are %+v, and were %+v", l[i], got, before[i])
			}
		}
	}
}

// R2, R7: calls at the same time share nothing.
func TestCallsAtTheSameTime(t *testing.T) {
	done := make(chan bool)
	for seed := range int64(4) {
		go func() {
			r := rand.New(rand.NewSource(seed))
			for _, c := range drawn(seed, 500) {
				checkValidAndStampByModel(t, c)
				checkAdvanceByModel(t, c, r.Int63n(lastTick))
				checkAdjustByModel(t, c, r.Uint32())
				checkReconcileByModel(t, drawList(r))
			}
			done <- true
		}()
	}
	for range 4 {
		<-done
	}
}
