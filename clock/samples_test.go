package clock_test

import (
	"math"
	"math/big"
	"math/rand"

	"baseboard/api"
)

const (
	lastTick   = 17_179_869_184
	lastSecond = 4_294_967_294
)

// timeOf is the time of a clock, valid or not, as an integer of any size.
func timeOf(c api.Clock) *big.Int {
	// Div rounds down, since what it divides by is positive.
	v := new(big.Int).Div(big.NewInt(c.Tick), big.NewInt(10))
	return v.Add(v, big.NewInt(c.Base))
}

func sum(a, b int64) *big.Int {
	return new(big.Int).Add(big.NewInt(a), big.NewInt(b))
}

func isFrom(v *big.Int, least, greatest int64) bool {
	return v.Cmp(big.NewInt(least)) >= 0 && v.Cmp(big.NewInt(greatest)) <= 0
}

// valid follows the chapter's section Types and knows nothing of how Valid works.
func valid(c api.Clock) bool {
	if !c.Set && c.Base != 0 {
		return false
	}
	return isFrom(big.NewInt(c.Tick), 0, lastTick) && isFrom(timeOf(c), 0, lastSecond)
}

// wantAdvanced is what P8.1 says of Advance.
func wantAdvanced(c api.Clock, ticks int64) (api.Clock, api.Errno) {
	if !valid(c) {
		return api.Clock{}, api.ErrInvalid
	}
	tick := sum(c.Tick, ticks)
	if ticks < 0 || !isFrom(tick, 0, lastTick) {
		return api.Clock{}, api.ErrRange
	}
	c.Tick = tick.Int64()
	if !isFrom(timeOf(c), 0, lastSecond) {
		return api.Clock{}, api.ErrRange
	}
	return c, api.OK
}

// first and second are the events of a change, written down by hand.
func first(time uint32) api.Event {
	return api.Event{Time: time, Generator: 0x20, SensorType: 0x12, Type: 0x6F, Data: [3]uint8{0x05, 0x00, 0xFF}}
}

func second(time uint32) api.Event {
	return api.Event{Time: time, Generator: 0x20, SensorType: 0x12, Type: 0x6F, Data: [3]uint8{0x05, 0x80, 0xFF}}
}

// other is an event of a sensor.
func other(time uint32) api.Event {
	return api.Event{ID: 7, Time: time, Generator: 0x20, SensorType: 1, Sensor: 5, Type: 1, Data: [3]uint8{0x59, 0x57, 0x50}}
}

// wantAdjusted is what P8.3 says of Adjust.
func wantAdjusted(c api.Clock, seconds uint32) (api.Clock, []api.Event, api.Errno) {
	if !valid(c) {
		return api.Clock{}, nil, api.ErrInvalid
	}
	if seconds == lastSecond+1 {
		return api.Clock{}, nil, api.ErrRange
	}
	adjusted := api.Clock{Tick: c.Tick, Set: true}
	adjusted.Base = new(big.Int).Sub(big.NewInt(int64(seconds)), timeOf(adjusted)).Int64()
	return adjusted, []api.Event{first(uint32(timeOf(c).Uint64())), second(seconds)}, api.OK
}

// withoutRest takes away what does not matter to whether an event is one of a change.
func withoutRest(e api.Event) api.Event {
	e.ID, e.Time, e.Generator, e.Sensor = 0, 0, 0x20, 0
	return e
}

func isFirst(e api.Event) bool  { return withoutRest(e) == first(0) }
func isSecond(e api.Event) bool { return withoutRest(e) == second(0) }

// wantReconciled follows P8.4 word by word, event by event.
func wantReconciled(l []api.Event) ([]int64, api.Errno) {
	for i, e := range l {
		if isFirst(e) && (i+1 == len(l) || !isSecond(l[i+1])) {
			return nil, api.ErrForm
		}
		if isSecond(e) && (i == 0 || !isFirst(l[i-1])) {
			return nil, api.ErrForm
		}
	}
	var times []int64
	for i, e := range l {
		v := big.NewInt(int64(e.Time))
		for j := i + 1; j < len(l); j++ {
			if isSecond(l[j]) {
				v.Add(v, sum(int64(l[j].Time), -int64(l[j-1].Time)))
			}
		}
		times = append(times, v.Int64())
	}
	return times, api.OK
}

// edgeBases returns Bases that are edges for any clock, and those with which a clock at the tick has a time that is one.
func edgeBases(tick int64) []int64 {
	l := []int64{
		math.MinInt64, math.MinInt64 + 1, -lastTick, -lastSecond - 1, -lastSecond, -1 << 32, -lastTick / 10, -10, -2, -1, 0, 1, 2, 10,
		lastTick / 10, lastSecond - 1, lastSecond, lastSecond + 1, 1 << 32, lastTick, math.MaxInt64 - 1, math.MaxInt64,
	}
	seconds := timeOf(api.Clock{Tick: tick})
	for _, time := range []int64{
		math.MinInt64, math.MinInt64 + 1, -1 << 32, -2, -1, 0, 1, 2, 1 << 31, lastSecond - 1, lastSecond, lastSecond + 1, lastSecond + 2, math.MaxInt64 - 1, math.MaxInt64,
	} {
		// Also Bases with which the time is just beyond an int64.
		for d := range int64(3) {
			base := new(big.Int).Sub(big.NewInt(time), seconds)
			base.Add(base, big.NewInt(d-1))
			if base.IsInt64() {
				l = append(l, base.Int64())
			}
		}
	}
	return l
}

// edges returns clocks with each edge of the tick and, for it, each edge of the Base, with Set true and with Set false; most of them are not valid.
func edges() []api.Clock {
	var l []api.Clock
	for _, tick := range []int64{
		math.MinInt64, math.MinInt64 + 1, -lastTick, -11, -10, -9, -2, -1, 0, 1, 8, 9, 10, 11, 19, 20, 25, 99, 100, 1 << 31, 1 << 32,
		lastTick - 11, lastTick - 10, lastTick - 5, lastTick - 4, lastTick - 1, lastTick, lastTick + 1, lastTick + 5, lastTick + 6, lastTick + 10, 1 << 36, 10 * lastSecond, 10*lastSecond + 9, 10*lastSecond + 10, math.MaxInt64 - 1, math.MaxInt64,
	} {
		for _, base := range edgeBases(tick) {
			l = append(l, api.Clock{Tick: tick, Base: base, Set: true}, api.Clock{Tick: tick, Base: base})
		}
	}
	return l
}

// edgeTicks returns ticks to advance a clock by: edges for any clock, and those around the last ticks that it can reach.
func edgeTicks(c api.Clock) []int64 {
	l := []int64{
		math.MinInt64, math.MinInt64 + 1, -lastTick - 1, -lastTick, -1 << 32, -10, -9, -1, 0, 1, 5, 9, 10, 11, 1 << 32,
		lastTick - 1, lastTick, lastTick + 1, 10 * lastSecond, 10*lastSecond + 9, 10*lastSecond + 10, math.MaxInt64 - 1, math.MaxInt64,
	}
	toLastSecond := new(big.Int).Sub(big.NewInt(lastSecond+1), big.NewInt(c.Base))
	toLastSecond.Mul(toLastSecond, big.NewInt(10))
	for _, tick := range []*big.Int{big.NewInt(0), big.NewInt(lastTick), big.NewInt(math.MaxInt64), toLastSecond} {
		for d := range int64(5) {
			ticks := new(big.Int).Sub(tick, big.NewInt(c.Tick))
			ticks.Add(ticks, big.NewInt(d-2))
			if ticks.IsInt64() {
				l = append(l, ticks.Int64())
			}
		}
	}
	return l
}

// edgeSeconds are times to set a clock to.
func edgeSeconds() []uint32 {
	return []uint32{0, 1, 2, 9, 10, 1000, 1<<31 - 1, 1 << 31, 1<<31 + 1, lastTick / 10, lastSecond - 1, lastSecond, lastSecond + 1}
}

// draw returns a clock of any length of numbers, which is most often valid.
func draw(r *rand.Rand) api.Clock {
	c := api.Clock{Tick: r.Int63n(lastTick+1) >> r.Intn(34), Set: r.Intn(3) > 0}
	if c.Set {
		c.Base = r.Int63n(lastSecond+1)>>r.Intn(32) - c.Tick/10
	}
	switch r.Intn(20) {
	case 0:
		c.Set = !c.Set
	case 1:
		c.Tick = int64(r.Uint64()) >> r.Intn(64)
	case 2:
		c.Base = int64(r.Uint64()) >> r.Intn(64)
	case 3:
		c.Base = -c.Base
	}
	return c
}

// drawn returns n clocks, most of which are valid.
func drawn(seed int64, n int) []api.Clock {
	r := rand.New(rand.NewSource(seed))
	var l []api.Clock
	for range n {
		l = append(l, draw(r))
	}
	return l
}

// drawEvent returns an event, which is often one of a change, or nearly one.
func drawEvent(r *rand.Rand) api.Event {
	time := r.Uint32() >> r.Intn(32)
	e := []api.Event{first(time), second(time), other(time)}[r.Intn(3)]
	if r.Intn(3) == 0 {
		e.ID, e.Generator, e.Sensor = uint16(r.Uint32()), uint16(r.Uint32()), uint8(r.Uint32())
	}
	switch r.Intn(20) {
	case 0:
		e.Deassert = true
	case 1:
		e.SensorType++
	case 2:
		e.Type--
	case 3:
		e.Data[r.Intn(3)] ^= 1 << r.Intn(8)
	}
	return e
}

// drawList returns events, in which most changes are complete.
func drawList(r *rand.Rand) []api.Event {
	var l []api.Event
	for range r.Intn(12) {
		if r.Intn(3) > 0 {
			a, b := first(r.Uint32()>>r.Intn(32)), second(r.Uint32()>>r.Intn(32))
			a.ID, b.Sensor = uint16(r.Uint32()), uint8(r.Uint32())
			l = append(l, a, b)
		} else if e := drawEvent(r); r.Intn(12) == 0 || !isFirst(e) && !isSecond(e) {
			l = append(l, e)
		}
	}
	return l
}
