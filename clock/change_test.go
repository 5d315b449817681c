package clock_test

import (
	"math"
	"math/rand"
	"slices"
	"testing"

	"baseboard/api"
	"baseboard/clock"
	"baseboard/event"
)

func checkAdjust(t *testing.T, c api.Clock, seconds uint32, want api.Clock, wantEvents []api.Event, wantError api.Errno) {
	t.Helper()
	got, events, e := clock.Adjust(c, seconds)
	if got != want || !slices.Equal(events, wantEvents) || e != wantError {
		t.Errorf("%+v set to %d is %+v with %+v, error %d, not %+v with %+v, error %d", c, seconds, got, events, e, want, wantEvents, wantError)
	}
}

func checkAdjustByModel(t *testing.T, c api.Clock, seconds uint32) api.Errno {
	t.Helper()
	want, wantEvents, wantError := wantAdjusted(c, seconds)
	checkAdjust(t, c, seconds, want, wantEvents, wantError)
	if wantError == api.OK {
		checkStamp(t, want, seconds, api.OK)
		if !clock.Valid(want) {
			t.Errorf("%+v, set to %d, is not valid", want, seconds)
		}
	}
	return wantError
}

func checkReconcile(t *testing.T, l []api.Event, want []int64, wantError api.Errno) {
	t.Helper()
	if got, e := clock.Reconcile(l); !slices.Equal(got, want) || e != wantError {
		t.Errorf("the times of %+v are %d, error %d, not %d, error %d", l, got, e, want, wantError)
	}
}

func checkReconcileByModel(t *testing.T, l []api.Event) api.Errno {
	t.Helper()
	want, wantError := wantReconciled(l)
	checkReconcile(t, l, want, wantError)
	return wantError
}

// P8.3
func TestAdjustOfKnownClocks(t *testing.T) {
	for _, x := range []struct {
		c       api.Clock
		seconds uint32
		base    int64
		before  uint32
	}{
		{api.Clock{}, 0, 0, 0},
		{api.Clock{}, 1, 1, 0},
		{api.Clock{Set: true}, 1, 1, 0},
		{api.Clock{Tick: 25}, 1000, 998, 2},
		{api.Clock{Tick: 29}, 1000, 998, 2},
		{api.Clock{Tick: 30}, 1000, 997, 3},
		{api.Clock{Tick: 25}, 2, 0, 2},
		{api.Clock{Tick: 25}, 1, -1, 2},
		{api.Clock{Tick: 25}, 0, -2, 2},
		{api.Clock{Tick: 25, Base: 998, Set: true}, 1000, 998, 1000},
		{api.Clock{Tick: 25, Base: 998, Set: true}, 5, 3, 1000},
		{api.Clock{Tick: 25, Base: 998, Set: true}, 2, 0, 1000},
		{api.Clock{Tick: 25, Base: -2, Set: true}, 7, 5, 0},
		{api.Clock{}, 4294967294, 4294967294, 0},
		{api.Clock{Tick: 9}, 4294967294, 4294967294, 0},
		{api.Clock{Tick: 10}, 4294967294, 4294967293, 1},
		{api.Clock{Tick: 9, Base: 4294967294, Set: true}, 0, 0, 4294967294},
		{api.Clock{Tick: 17179869184}, 4294967294, 2576980376, 1717986918},
		{api.Clock{Tick: 17179869184}, 0, -1717986918, 1717986918},
		{api.Clock{Tick: 17179869184, Base: 2576980376, Set: true}, 0, -1717986918, 4294967294},
	} {
		want := api.Clock{Tick: x.c.Tick, Base: x.base, Set: true}
		events := []api.Event{
			{Time: x.before, Generator: 32, SensorType: 18, Type: 111, Data: [3]uint8{5, 0, 255}},
			{Time: x.seconds, Generator: 32, SensorType: 18, Type: 111, Data: [3]uint8{5, 128, 255}},
		}
		checkAdjust(t, x.c, x.seconds, want, events, api.OK)
		checkAdjustByModel(t, x.c, x.seconds)
	}
}

// P8.3: each error, and both at once.
func TestErrorsOfAdjust(t *testing.T) {
	for _, x := range []struct {
		c       api.Clock
		seconds uint32
		want    api.Errno
	}{
		{api.Clock{}, 4294967295, api.ErrRange},
		{api.Clock{Tick: 25, Base: 998, Set: true}, 4294967295, api.ErrRange},
		{api.Clock{Tick: 17179869184}, 4294967295, api.ErrRange},
		{api.Clock{Tick: -1}, 0, api.ErrInvalid},
		{api.Clock{Tick: -1, Base: 3, Set: true}, 0, api.ErrInvalid},
		{api.Clock{Tick: 17179869185}, 5, api.ErrInvalid},
		{api.Clock{Tick: math.MinInt64}, 5, api.ErrInvalid},
		{api.Clock{Tick: math.MaxInt64}, 5, api.ErrInvalid},
		{api.Clock{Base: 1}, 5, api.ErrInvalid},
		{api.Clock{Base: -1, Set: true}, 5, api.ErrInvalid},
		{api.Clock{Base: 4294967295, Set: true}, 5, api.ErrInvalid},
		{api.Clock{Tick: 17179869184, Base: math.MaxInt64, Set: true}, 5, api.ErrInvalid},
		{api.Clock{Tick: -1}, 4294967295, api.ErrInvalid},
		{api.Clock{Tick: 17179869185}, 4294967295, api.ErrInvalid},
		{api.Clock{Base: 1}, 4294967295, api.ErrInvalid},
		{api.Clock{Base: -1, Set: true}, 4294967295, api.ErrInvalid},
		{api.Clock{Base: 4294967295, Set: true}, 4294967295, api.ErrInvalid},
	} {
		checkAdjust(t, x.c, x.seconds, api.Clock{}, nil, x.want)
		if got, events, _ := clock.Adjust(x.c, x.seconds); got != (api.Clock{}) || events != nil {
			t.Errorf("%+v set to %d is %+v with %+v beside the error", x.c, x.seconds, got, events)
		}
		checkAdjustByModel(t, x.c, x.seconds)
	}
}

// P8.3
func TestAdjustOfEdgesAndDrawnClocks(t *testing.T) {
	counts := map[api.Errno]int{}
	for _, c := range edges() {
		for _, seconds := range edgeSeconds() {
			counts[checkAdjustByModel(t, c, seconds)]++
		}
	}
	r := rand.New(rand.NewSource(84))
	for _, c := range drawn(85, 50000) {
		counts[checkAdjustByModel(t, c, r.Uint32()>>r.Intn(32))]++
	}
	for _, e := range []api.Errno{api.OK, api.ErrInvalid, api.ErrRange} {
		if counts[e] < 500 {
			t.Errorf("too few calls of a kind: %v", counts)
		}
	}
}

// P8.3: the events of a change can be encoded, also that of the greatest time.
func TestEventsOfAdjustAreValid(t *testing.T) {
	for _, c := range append(edges(), drawn(86, 1000)...) {
		for _, seconds := range edgeSeconds() {
			_, events, _ := clock.Adjust(c, seconds)
			for _, e := range events {
				if !event.Valid(e) {
					t.Errorf("%+v is not valid", e)
				}
			}
		}
	}
}

// P8.4
func TestReconcileOfKnownLists(t *testing.T) {
	for _, x := range []struct {
		l    []api.Event
		want []int64
	}{
		{nil, nil},
		{[]api.Event{}, nil},
		{[]api.Event{other(7)}, []int64{7}},
		{[]api.Event{other(4294967295)}, []int64{4294967295}},
		{[]api.Event{other(9), other(3), other(5)}, []int64{9, 3, 5}},
		{[]api.Event{first(2), second(1000)}, []int64{1000, 1000}},
		{[]api.Event{first(1000), second(2)}, []int64{2, 2}},
		{[]api.Event{first(5), second(5)}, []int64{5, 5}},
		{[]api.Event{other(1), first(2), second(1000), other(1005)}, []int64{999, 1000, 1000, 1005}},
		{[]api.Event{other(10), first(100), second(0), other(5)}, []int64{-90, 0, 0, 5}},
		{[]api.Event{other(0), first(4294967294), second(0)}, []int64{-4294967294, 0, 0}},
		{[]api.Event{other(4294967295), first(0), second(4294967295), other(0)}, []int64{8589934590, 4294967295, 4294967295, 0}},
		{[]api.Event{other(0), first(4294967295), second(0), other(1)}, []int64{-4294967295, 0, 0, 1}},
		// Several changes: directly behind one another, with events in between, with times that are set back.
		{[]api.Event{first(1), second(5), first(6), second(3), other(4)}, []int64{2, 2, 3, 3, 4}},
		{[]api.Event{first(0), second(10), first(10), second(30), first(30), second(60)}, []int64{60, 60, 60, 60, 60, 60}},
		{[]api.Event{other(0), first(1), second(101), other(102), first(103), second(3), other(4), first(5), second(1005), other(1006)}, []int64{1000, 1001, 1001, 1002, 1003, 1003, 1004, 1005, 1005, 1006}},
		{[]api.Event{other(50), first(60), second(40), other(45), first(50), second(20)}, []int64{0, 10, 10, 15, 20, 20}},
		{[]api.Event{first(3), second(1), first(3), second(1), first(3), second(1), first(3), second(1)}, []int64{-5, -5, -3, -3, -1, -1, 1, 1}},
	} {
		checkReconcile(t, x.l, x.want, api.OK)
		checkReconcileByModel(t, x.l)
	}
}

// P8.4
func TestReconcileOfIncompleteChanges(t *testing.T) {
	o, a, b := other(5), first(6), second(7)
	for _, l := range [][]api.Event{
		{a}, {b},
		{a, a}, {b, b}, {b, a}, {o, a}, {o, b}, {a, o}, {b, o},
		{a, a, b}, {a, b, b}, {a, b, a}, {b, a, b}, {a, o, b}, {b, b, a}, {b, o, a}, {o, o, a}, {o, o, b}, {b, o, o}, {a, o, o},
		{a, b, a, a}, {a, a, b, b}, {b, a, b, a}, {a, b, b, a}, {o, a, o, b}, {a, o, b, o}, {a, o, o, b}, {a, b, o, a}, {a, b, o, b}, {a, o, a, b}, {b, o, a, b},
		{a, a, b, a, b}, {a, b, a, b, b}, {a, b, a, b, a}, {b, a, b, a, b}, {a, b, a, o, b}, {a, b, b, a, b}, {a, b, a, a, b}, {a, o, b, a, b},
		{a, b, o, a, b, o, a}, {b, o, a, b, o, a, b}, {o, a, b, o, b, a, o},
	} {
		checkReconcile(t, l, nil, api.ErrForm)
		if times, _ := clock.Reconcile(l); times != nil {
			t.Errorf("the times of %+v are %d beside the error", l, times)
		}
		checkReconcileByModel(t, l)
	}
}

// P8.4: all lists of up to eight events, each of which is a first one, a second one or another one.
func TestReconcileOfAllShortLists(t *testing.T) {
	counts := map[api.Errno]int{}
	var extend func(l []api.Event)
	extend = func(l []api.Event) {
		counts[checkReconcileByModel(t, l)]++
		if len(l) == 8 {
			return
		}
		// Times that rise and fall, and of which no two differ by the same number.
		time := []uint32{300, 1, 4000, 20, 70000, 5, 900000, 33}[len(l)]
		for _, e := range []api.Event{other(time), first(time), second(time)} {
			extend(append(slices.Clone(l), e))
		}
	}
	extend(nil)
	// As many lists as Fibonacci's numbers tell are made of other events and of whole changes.
	if counts[api.OK] != 1+1+2+3+5+8+13+21+34 || counts[api.ErrForm] != 9841-88 {
		t.Errorf("there are other numbers of lists: %v", counts)
	}
}

// nearlyChange returns events that differ from a first or a second one in one field, and are neither.
func nearlyChange(e api.Event) []api.Event {
	c := e
	c.Deassert = true
	l := []api.Event{c}
	for x := range 256 {
		c := e
		c.SensorType = uint8(x)
		l = append(l, c)
		c = e
		c.Type = uint8(x)
		l = append(l, c)
		for i := range e.Data {
			c := e
			c.Data[i] = uint8(x)
			l = append(l, c)
		}
	}
	return slices.DeleteFunc(l, func(e api.Event) bool {
		e.Time = 0
		return e == first(0) || e == second(0)
	})
}

// P8.4
func TestReconcileOfEventsThatDifferInOneField(t *testing.T) {
	l := append(nearlyChange(first(44)), nearlyChange(second(44))...)
	if len(l) != 2*(1+255+255+255+254+255) {
		t.Fatalf("there are %d events", len(l))
	}
	for _, e := range l {
		checkReconcile(t, []api.Event{e}, []int64{44}, api.OK)
		checkReconcile(t, []api.Event{e, first(50), second(60), e}, []int64{54, 60, 60, 44}, api.OK)
		checkReconcile(t, []api.Event{e, e}, []int64{44, 44}, api.OK)
		checkReconcile(t, []api.Event{first(50), e}, nil, api.ErrForm)
		checkReconcile(t, []api.Event{e, second(50)}, nil, api.ErrForm)
		checkReconcile(t, []api.Event{first(50), e, second(50)}, nil, api.ErrForm)
	}
}

// P8.4: events of a change whatever their ID, Time, Generator and Sensor are.
func TestReconcileOfEventsOfOtherLogs(t *testing.T) {
	var firsts, seconds []api.Event
	for _, id := range []uint16{0, 1, 65534, 65535} {
		for _, generator := range []uint16{0, 0x20, 0x21, 65535} {
			for _, number := range []uint8{0, 1, 5, 255} {
				for _, time := range []uint32{0, 9, 4294967294, 4294967295} {
					a, b := first(time), second(time)
					a.ID, a.Generator, a.Sensor = id, generator, number
					b.ID, b.Generator, b.Sensor = id, generator, number
					firsts, seconds = append(firsts, a), append(seconds, b)
				}
			}
		}
	}
	for i, a := range firsts {
		checkReconcile(t, []api.Event{a}, nil, api.ErrForm)
		checkReconcile(t, []api.Event{seconds[i]}, nil, api.ErrForm)
		checkReconcile(t, []api.Event{other(1), a}, nil, api.ErrForm)
		checkReconcile(t, []api.Event{seconds[i], other(1)}, nil, api.ErrForm)
		for j := range seconds {
			// Only the Time of both matters to how far the other events are moved.
			b := seconds[(i+j)%len(seconds)]
			to := int64(b.Time)
			checkReconcile(t, []api.Event{other(100), a, b, other(3)}, []int64{100 + to - int64(a.Time), to, to, 3}, api.OK)
		}
	}
}

// P8.4: other events are what they are, whatever else is in them.
func TestReconcileOfEventsThatAreNotValid(t *testing.T) {
	strange := api.Event{ID: 65535, Time: 4294967295, Generator: 65535, SensorType: 255, Sensor: 255, Type: 255, Deassert: true, Data: [3]uint8{255, 255, 255}}
	checkReconcile(t, []api.Event{strange}, []int64{4294967295}, api.OK)
	checkReconcile(t, []api.Event{strange, first(8), second(5), strange}, []int64{4294967292, 5, 5, 4294967295}, api.OK)
	clocklike := api.Event{Time: 6, SensorType: 0x12, Type: 0xEF, Data: [3]uint8{5, 0x80, 0xFF}}
	checkReconcile(t, []api.Event{clocklike, first(8), second(5), clocklike}, []int64{3, 5, 5, 6}, api.OK)
}

// P8.4
func TestReconcileOfDrawnLists(t *testing.T) {
	r := rand.New(rand.NewSource(87))
	counts := map[api.Errno]int{}
	for range 50000 {
		l := drawList(r)
		counts[checkReconcileByModel(t, l)]++
		if len(l) > 0 {
			// One event is taken out, doubled, or replaced.
			i := r.Intn(len(l))
			counts[checkReconcileByModel(t, slices.Delete(slices.Clone(l), i, i+1))]++
			counts[checkReconcileByModel(t, slices.Insert(slices.Clone(l), i, l[i]))]++
			l = slices.Clone(l)
			l[i] = drawEvent(r)
			counts[checkReconcileByModel(t, l)]++
		}
	}
	if counts[api.OK] < 10000 || counts[api.ErrForm] < 10000 {
		t.Errorf("too few lists of a kind: %v", counts)
	}
}

// P8.4: of a long list, whose times are far beyond what an event can have.
func TestReconcileOfManyChanges(t *testing.T) {
	const changes = 200_000
	for _, x := range []struct{ from, to uint32 }{{0, lastSecond}, {lastSecond, 0}} {
		var l []api.Event
		for range changes {
			l = append(l, other(77), first(x.from), second(x.to))
		}
		times, e := clock.Reconcile(l)
		if len(times) != len(l) || e != api.OK {
			t.Fatalf("there are %d times, error %d", len(times), e)
		}
		step := int64(x.to) - int64(x.from)
		for i := range changes {
			left := int64(changes - i)
			got := [3]int64(times[3*i:])
			want := [3]int64{77 + left*step, int64(x.from) + left*step, int64(x.to) + (left-1)*step}
			if got != want {
				t.Fatalf("the times at change %d are %d, not %d", i, got, want)
			}
		}
		checkReconcile(t, append(l, first(3)), nil, api.ErrForm)
		checkReconcile(t, append([]api.Event{second(3)}, l...), nil, api.ErrForm)
	}
}

// story is a clock that is advanced and adjusted, and the events that were recorded meanwhile, with their ticks.
type story struct {
	c      api.Clock
	events []api.Event
	ticks  []int64
}

func (s *story) record(t *testing.T, e api.Event) {
	time, err := clock.Stamp(s.c)
	if err != api.OK {
		t.Fatalf("the time of %+v is error %d", s.c, err)
	}
	e.ID, e.Time = uint16(len(s.events)+1), time
	s.events, s.ticks = append(s.events, e), append(s.ticks, s.c.Tick)
}

func (s *story) adjust(t *testing.T, seconds uint32) {
	c, events, err := clock.Adjust(s.c, seconds)
	if err != api.OK || len(events) != 2 {
		t.Fatalf("%+v set to %d is error %d", s.c, seconds, err)
	}
	if before, _ := clock.Stamp(s.c); events[0].Time != before {
		t.Fatalf("%+v set to %d leaves the time %d", s.c, seconds, events[0].Time)
	}
	s.c = c
	s.events, s.ticks = append(s.events, events...), append(s.ticks, c.Tick, c.Tick)
}

func (s *story) step(t *testing.T, r *rand.Rand) {
	switch r.Intn(4) {
	case 0:
		s.adjust(t, uint32(r.Int63n(lastSecond+1))>>r.Intn(33))
	case 1, 2:
		s.record(t, other(0))
	default:
		// A step beyond the last tick or the last second is refused, and the clock stays.
		if c, err := clock.Advance(s.c, r.Int63n(lastTick)>>r.Intn(35)); err == api.OK {
			s.c = c
		}
	}
}

// Consequences: the reconciled times of a story are those of a clock that always had its last Base; so they never fall, and are the same at the same tick.
func TestReconcileOfStories(t *testing.T) {
	r := rand.New(rand.NewSource(88))
	below, back, same := 0, 0, 0
	for range 5000 {
		s := &story{}
		for range r.Intn(60) {
			s.step(t, r)
		}
		times, err := clock.Reconcile(s.events)
		if len(times) != len(s.events) || err != api.OK {
			t.Fatalf("%+v: there are %d times, error %d", s, len(times), err)
		}
		for i, time := range times {
			if time != s.ticks[i]/10+s.c.Base {
				t.Errorf("%+v: the time at tick %d is %d", s, s.ticks[i], time)
			}
			if time < 0 {
				below++
			}
			if i == 0 {
				continue
			}
			if time < times[i-1] || s.ticks[i] == s.ticks[i-1] && time != times[i-1] {
				t.Errorf("%+v: the time at tick %d is %d, behind %d at tick %d", s, s.ticks[i], time, times[i-1], s.ticks[i-1])
			}
			if s.events[i].Time < s.events[i-1].Time {
				back++
			}
			if s.ticks[i] == s.ticks[i-1] {
				same++
			}
		}
	}
	if below < 1000 || back < 1000 || same < 1000 {
		t.Errorf("too few times below 0 (%d), set back (%d) or at the same tick (%d)", below, back, same)
	}
}

// Examples
func TestExamples(t *testing.T) {
	c, e := clock.Advance(api.Clock{}, 25)
	if e != api.OK {
		t.Fatalf("error %d", e)
	}
	checkStamp(t, c, 2, api.OK)
	c, events, e := clock.Adjust(c, 1000)
	if c != (api.Clock{Tick: 25, Base: 998, Set: true}) || e != api.OK {
		t.Fatalf("the clock is %+v, error %d", c, e)
	}
	l := append(append([]api.Event{other(1)}, events...), other(1005))
	checkReconcile(t, l, []int64{999, 1000, 1000, 1005}, api.OK)
}
