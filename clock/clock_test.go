package clock_test

import (
	"math"
	"math/rand"
	"testing"

	"baseboard/api"
	"baseboard/clock"
)

func checkAdvance(t *testing.T, c api.Clock, ticks int64, want api.Clock, wantError api.Errno) {
	t.Helper()
	if got, e := clock.Advance(c, ticks); got != want || e != wantError {
		t.Errorf("%+v advanced by %d is %+v, error %d, not %+v, error %d", c, ticks, got, e, want, wantError)
	}
}

func checkAdvanceByModel(t *testing.T, c api.Clock, ticks int64) api.Errno {
	t.Helper()
	want, wantError := wantAdvanced(c, ticks)
	checkAdvance(t, c, ticks, want, wantError)
	return wantError
}

func checkStamp(t *testing.T, c api.Clock, want uint32, wantError api.Errno) {
	t.Helper()
	if got, e := clock.Stamp(c); got != want || e != wantError {
		t.Errorf("the time of %+v is %d, error %d, not %d, error %d", c, got, e, want, wantError)
	}
}

// P8.1 and P8.2: clocks, whether they are valid, and the times of those that are.
func TestValidAndStampOfKnownClocks(t *testing.T) {
	for _, x := range []struct {
		c    api.Clock
		ok   bool
		want uint32
	}{
		{api.Clock{}, true, 0},
		{api.Clock{Set: true}, true, 0},
		{api.Clock{Tick: -1}, false, 0},
		{api.Clock{Tick: -1, Set: true}, false, 0},
		{api.Clock{Tick: -1, Base: 1000, Set: true}, false, 0},
		{api.Clock{Tick: -10, Base: 1, Set: true}, false, 0},
		{api.Clock{Tick: 1}, true, 0},
		{api.Clock{Tick: 9}, true, 0},
		{api.Clock{Tick: 10}, true, 1},
		{api.Clock{Tick: 19}, true, 1},
		{api.Clock{Tick: 20}, true, 2},
		{api.Clock{Tick: 25}, true, 2},
		{api.Clock{Tick: 25, Base: 998, Set: true}, true, 1000},
		{api.Clock{Tick: 17179869184}, true, 1717986918},
		{api.Clock{Tick: 17179869184, Set: true}, true, 1717986918},
		{api.Clock{Tick: 17179869185}, false, 0},
		{api.Clock{Tick: 17179869185, Base: -5, Set: true}, false, 0},
		{api.Clock{Tick: math.MinInt64}, false, 0},
		{api.Clock{Tick: math.MaxInt64}, false, 0},
		{api.Clock{Tick: math.MaxInt64, Base: -math.MaxInt64 / 10, Set: true}, false, 0},
		{api.Clock{Tick: math.MinInt64, Base: -(math.MinInt64 / 10), Set: true}, false, 0},
		{api.Clock{Base: 1, Set: true}, true, 1},
		{api.Clock{Base: 1}, false, 0},
		{api.Clock{Base: -1}, false, 0},
		{api.Clock{Tick: 10, Base: -1}, false, 0},
		{api.Clock{Tick: 10, Base: 1}, false, 0},
		{api.Clock{Base: -1, Set: true}, false, 0},
		{api.Clock{Tick: 9, Base: -1, Set: true}, false, 0},
		{api.Clock{Tick: 10, Base: -1, Set: true}, true, 0},
		{api.Clock{Tick: 19, Base: -1, Set: true}, true, 0},
		{api.Clock{Tick: 19, Base: -2, Set: true}, false, 0},
		{api.Clock{Tick: 20, Base: -1, Set: true}, true, 1},
		{api.Clock{Tick: 17179869184, Base: -1717986918, Set: true}, true, 0},
		{api.Clock{Tick: 17179869184, Base: -1717986919, Set: true}, false, 0},
		{api.Clock{Base: 4294967294, Set: true}, true, 4294967294},
		{api.Clock{Base: 4294967294}, false, 0},
		{api.Clock{Tick: 9, Base: 4294967294, Set: true}, true, 4294967294},
		{api.Clock{Tick: 10, Base: 4294967294, Set: true}, false, 0},
		{api.Clock{Base: 4294967295, Set: true}, false, 0},
		{api.Clock{Base: 4294967296, Set: true}, false, 0},
		{api.Clock{Base: 4294967297, Set: true}, false, 0},
		{api.Clock{Tick: 10, Base: 4294967293, Set: true}, true, 4294967294},
		{api.Clock{Tick: 17179869184, Base: 2576980376, Set: true}, true, 4294967294},
		{api.Clock{Tick: 17179869184, Base: 2576980377, Set: true}, false, 0},
		{api.Clock{Base: math.MaxInt64, Set: true}, false, 0},
		{api.Clock{Tick: 10, Base: math.MaxInt64, Set: true}, false, 0},
		{api.Clock{Tick: 17179869184, Base: math.MaxInt64, Set: true}, false, 0},
		{api.Clock{Tick: 17179869184, Base: math.MaxInt64}, false, 0},
		{api.Clock{Base: math.MinInt64, Set: true}, false, 0},
		{api.Clock{Tick: 17179869184, Base: math.MinInt64, Set: true}, false, 0},
		{api.Clock{Tick: math.MaxInt64, Base: math.MaxInt64, Set: true}, false, 0},
		{api.Clock{Tick: math.MinInt64, Base: math.MinInt64, Set: true}, false, 0},
		{api.Clock{Tick: math.MinInt64, Base: math.MaxInt64}, false, 0},
	} {
		if clock.Valid(x.c) != x.ok || valid(x.c) != x.ok {
			t.Errorf("Valid of %+v is %t, and %t for the model", x.c, clock.Valid(x.c), valid(x.c))
		}
		if x.ok {
			checkStamp(t, x.c, x.want, api.OK)
		} else {
			checkStamp(t, x.c, 0, api.ErrInvalid)
		}
	}
}

func checkValidAndStampByModel(t *testing.T, c api.Clock) bool {
	t.Helper()
	want := valid(c)
	if clock.Valid(c) != want {
		t.Errorf("Valid of %+v is %t", c, !want)
	}
	if want {
		checkStamp(t, c, uint32(timeOf(c).Uint64()), api.OK)
	} else {
		checkStamp(t, c, 0, api.ErrInvalid)
	}
	return want
}

// P8.1, P8.2
func TestValidAndStampOfEdgesAndDrawnClocks(t *testing.T) {
	for name, l := range map[string][]api.Clock{"edges": edges(), "drawn": drawn(81, 50000)} {
		counts := map[bool]int{}
		for _, c := range l {
			counts[checkValidAndStampByModel(t, c)]++
		}
		if counts[true] < 500 || counts[false] < 500 {
			t.Errorf("%s: too few clocks of a kind: %v", name, counts)
		}
	}
}

// P8.1, P8.2: the time changes at every tenth tick and nowhere else.
func TestStampOfTicksInARow(t *testing.T) {
	for _, base := range []int64{0, 3, 1_000_000} {
		for seconds := range 100 {
			for tenth := range 10 {
				checkStamp(t, api.Clock{Tick: int64(10*seconds + tenth), Base: base, Set: base > 0}, uint32(base)+uint32(seconds), api.OK)
			}
		}
	}
}

// P8.1
func TestAdvanceOfKnownClocks(t *testing.T) {
	for _, x := range []struct {
		c     api.Clock
		ticks int64
		want  api.Clock
		e     api.Errno
	}{
		{api.Clock{}, 0, api.Clock{}, api.OK},
		{api.Clock{}, 1, api.Clock{Tick: 1}, api.OK},
		{api.Clock{}, 25, api.Clock{Tick: 25}, api.OK},
		{api.Clock{Tick: 25}, 75, api.Clock{Tick: 100}, api.OK},
		{api.Clock{Tick: 25, Set: true}, 75, api.Clock{Tick: 100, Set: true}, api.OK},
		{api.Clock{Tick: 25, Base: 998, Set: true}, 5, api.Clock{Tick: 30, Base: 998, Set: true}, api.OK},
		{api.Clock{Tick: 25, Base: -2, Set: true}, 5, api.Clock{Tick: 30, Base: -2, Set: true}, api.OK},
		{api.Clock{}, -1, api.Clock{}, api.ErrRange},
		{api.Clock{Tick: 1}, -1, api.Clock{}, api.ErrRange},
		{api.Clock{Tick: 100, Base: 7, Set: true}, -1, api.Clock{}, api.ErrRange},
		{api.Clock{Tick: 100, Base: 7, Set: true}, math.MinInt64, api.Clock{}, api.ErrRange},
		{api.Clock{}, math.MinInt64, api.Clock{}, api.ErrRange},
		{api.Clock{}, 17179869184, api.Clock{Tick: 17179869184}, api.OK},
		{api.Clock{}, 17179869185, api.Clock{}, api.ErrRange},
		{api.Clock{Tick: 17179869184}, 0, api.Clock{Tick: 17179869184}, api.OK},
		{api.Clock{Tick: 17179869184}, 1, api.Clock{}, api.ErrRange},
		{api.Clock{Tick: 17179869184, Base: -1717986918, Set: true}, 1, api.Clock{}, api.ErrRange},
		{api.Clock{Tick: 17179869180}, 4, api.Clock{Tick: 17179869184}, api.OK},
		{api.Clock{Tick: 17179869180}, 5, api.Clock{}, api.ErrRange},
		{api.Clock{}, math.MaxInt64, api.Clock{}, api.ErrRange},
		{api.Clock{Tick: 1}, math.MaxInt64, api.Clock{}, api.ErrRange},
		{api.Clock{Tick: 17179869184}, math.MaxInt64, api.Clock{}, api.ErrRange},
		{api.Clock{Base: 4294967294, Set: true}, 9, api.Clock{Tick: 9, Base: 4294967294, Set: true}, api.OK},
		{api.Clock{Base: 4294967294, Set: true}, 10, api.Clock{}, api.ErrRange},
		{api.Clock{Tick: 5, Base: 4294967294, Set: true}, 4, api.Clock{Tick: 9, Base: 4294967294, Set: true}, api.OK},
		{api.Clock{Tick: 5, Base: 4294967294, Set: true}, 5, api.Clock{}, api.ErrRange},
		{api.Clock{Tick: 5, Base: 4294967294, Set: true}, -1, api.Clock{}, api.ErrRange},
		{api.Clock{Tick: 5, Base: 4294967294, Set: true}, math.MaxInt64, api.Clock{}, api.ErrRange},
		{api.Clock{Tick: 100, Base: 4294967200, Set: true}, 849, api.Clock{Tick: 949, Base: 4294967200, Set: true}, api.OK},
		{api.Clock{Tick: 100, Base: 4294967200, Set: true}, 850, api.Clock{}, api.ErrRange},
		{api.Clock{Tick: 0, Base: 2576980376, Set: true}, 17179869184, api.Clock{Tick: 17179869184, Base: 2576980376, Set: true}, api.OK},
		{api.Clock{Tick: 0, Base: 2576980377, Set: true}, 17179869179, api.Clock{Tick: 17179869179, Base: 2576980377, Set: true}, api.OK},
		{api.Clock{Tick: 0, Base: 2576980377, Set: true}, 17179869180, api.Clock{}, api.ErrRange},
		// A clock that is not valid, with ticks that are in range and with those that are not.
		{api.Clock{Tick: -1}, 0, api.Clock{}, api.ErrInvalid},
		{api.Clock{Tick: -1}, 1, api.Clock{}, api.ErrInvalid},
		{api.Clock{Tick: -1}, -1, api.Clock{}, api.ErrInvalid},
		{api.Clock{Tick: -1}, math.MinInt64, api.Clock{}, api.ErrInvalid},
		{api.Clock{Tick: -1}, math.MaxInt64, api.Clock{}, api.ErrInvalid},
		{api.Clock{Tick: 17179869185}, 0, api.Clock{}, api.ErrInvalid},
		{api.Clock{Tick: 17179869185}, -1, api.Clock{}, api.ErrInvalid},
		{api.Clock{Tick: 17179869185}, 1, api.Clock{}, api.ErrInvalid},
		{api.Clock{Base: 1}, 0, api.Clock{}, api.ErrInvalid},
		{api.Clock{Base: 1}, -1, api.Clock{}, api.ErrInvalid},
		{api.Clock{Base: 1}, 17179869185, api.Clock{}, api.ErrInvalid},
		{api.Clock{Base: -1, Set: true}, 10, api.Clock{}, api.ErrInvalid},
		{api.Clock{Base: -1, Set: true}, -10, api.Clock{}, api.ErrInvalid},
		{api.Clock{Base: 4294967295, Set: true}, 0, api.Clock{}, api.ErrInvalid},
		{api.Clock{Base: 4294967295, Set: true}, 10, api.Clock{}, api.ErrInvalid},
		{api.Clock{Tick: 10, Base: 4294967294, Set: true}, -1, api.Clock{}, api.ErrInvalid},
		{api.Clock{Tick: math.MinInt64}, math.MaxInt64, api.Clock{}, api.ErrInvalid},
		{api.Clock{Tick: math.MaxInt64}, math.MinInt64, api.Clock{}, api.ErrInvalid},
		{api.Clock{Tick: math.MinInt64}, math.MinInt64, api.Clock{}, api.ErrInvalid},
		{api.Clock{Tick: math.MaxInt64}, math.MaxInt64, api.Clock{}, api.ErrInvalid},
	} {
		checkAdvance(t, x.c, x.ticks, x.want, x.e)
		if want, e := wantAdvanced(x.c, x.ticks); want != x.want || e != x.e {
			t.Errorf("%+v advanced by %d is %+v, error %d for the model", x.c, x.ticks, want, e)
		}
	}
}

// P8.1
func TestAdvanceOfEdges(t *testing.T) {
	counts := map[api.Errno]int{}
	for _, c := range edges() {
		for _, ticks := range edgeTicks(c) {
			counts[checkAdvanceByModel(t, c, ticks)]++
		}
	}
	for _, e := range []api.Errno{api.OK, api.ErrInvalid, api.ErrRange} {
		if counts[e] < 1000 {
			t.Errorf("too few calls of a kind: %v", counts)
		}
	}
}

// P8.1
func TestAdvanceOfDrawnClocks(t *testing.T) {
	r := rand.New(rand.NewSource(82))
	counts := map[api.Errno]int{}
	for range 100000 {
		c := draw(r)
		ticks := r.Int63n(lastTick) >> r.Intn(34)
		switch r.Intn(10) {
		case 0:
			ticks = int64(r.Uint64()) >> r.Intn(64)
		case 1:
			l := edgeTicks(c)
			ticks = l[r.Intn(len(l))]
		}
		counts[checkAdvanceByModel(t, c, ticks)]++
	}
	for _, e := range []api.Errno{api.OK, api.ErrInvalid, api.ErrRange} {
		if counts[e] < 1000 {
			t.Errorf("too few calls of a kind: %v", counts)
		}
	}
}

// checkTwoSteps checks that a clock that is advanced in two steps is the same, or is refused in the same way, as one that is advanced at once.
func checkTwoSteps(t *testing.T, c api.Clock, a, b int64) api.Errno {
	t.Helper()
	together, e := clock.Advance(c, a+b)
	got, stepError := clock.Advance(c, a)
	if stepError == api.OK {
		got, stepError = clock.Advance(got, b)
	}
	if got != together || stepError != e {
		t.Errorf("%+v advanced by %d and then %d is %+v, error %d, but at once %+v, error %d", c, a, b, got, stepError, together, e)
	}
	return e
}

// Consequences
func TestAdvanceInTwoSteps(t *testing.T) {
	for _, c := range edges() {
		l := edgeTicks(c)
		for i, a := range l {
			b := l[(7*i+3)%len(l)]
			if a >= 0 && b >= 0 && a <= math.MaxInt64-b {
				checkTwoSteps(t, c, a, b)
			}
		}
	}
	r := rand.New(rand.NewSource(83))
	counts := map[api.Errno]int{}
	for range 50000 {
		counts[checkTwoSteps(t, draw(r), r.Int63n(lastTick)>>r.Intn(6), r.Int63n(lastTick)>>r.Intn(34))]++
	}
	for _, e := range []api.Errno{api.OK, api.ErrInvalid, api.ErrRange} {
		if counts[e] < 500 {
			t.Errorf("too few calls of a kind: %v", counts)
		}
	}
}

// Consequences: many small steps.
func TestAdvanceTickByTick(t *testing.T) {
	for _, start := range []api.Clock{{}, {Tick: 7, Base: 5, Set: true}, {Tick: lastTick - 300, Base: -1, Set: true}, {Base: lastSecond - 20, Set: true}} {
		c := start
		for n := range int64(200) {
			want, _ := wantAdvanced(start, n)
			if c != want {
				t.Fatalf("%+v advanced by 1, %d times, is %+v", start, n, c)
			}
			c, _ = clock.Advance(c, 1)
		}
	}
}
