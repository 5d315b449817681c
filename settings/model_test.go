package settings_test

import (
	"fmt"
	"math/rand"
	"slices"
	"testing"

	"baseboard/api"
)

// model works out from the bytes of two sectors what the chapter says of them.
type model struct {
	active     int // 0 or 1, or -1 without an active sector
	generation int
	values     []api.Setting // ascending by key
	tail       int
}

func modelOf(sectors [2][]byte) model {
	m := model{active: -1}
	for i, b := range sectors {
		g := 0
		for j := 3; j >= 0; j-- {
			g = 256*g + int(b[j])
		}
		if b[4] == 0 && g <= api.MaxGeneration && g > m.generation {
			m.active, m.generation = i, g
		}
	}
	if m.active < 0 {
		return m
	}
	r := reader{sectors[m.active], 5, true}
	for {
		m.tail = r.at
		l := r.batch()
		after := applied(m.values, l)
		if !r.good || len(after) > 32 {
			return m
		}
		m.values = after
	}
}

// reader reads bytes and is not good any more if there is none or if it is not a good one.
type reader struct {
	b    []byte
	at   int
	good bool
}

func (r *reader) next() byte {
	if r.at >= len(r.b) {
		r.good = false
		return 0
	}
	r.at++
	return r.b[r.at-1]
}

func (r *reader) require(good bool) { r.good = r.good && good }

func (r *reader) batch() []api.Setting {
	c := int(r.next())
	r.require(c >= 1 && c <= 32)
	var l []api.Setting
	for i := 0; i < c && r.good; i++ {
		x := api.Setting{Key: r.next()}
		n := int(r.next())
		x.Delete = n == 0x80
		r.require(x.Delete || n <= 28)
		for j := 0; j < n && !x.Delete && r.good; j++ {
			x.Value = append(x.Value, r.next())
		}
		l = append(l, x)
	}
	r.require(r.next() == 0)
	return l
}

// update returns what an update of a store in the sectors first and first + 1 does.
func (m model) update(sectors [2][]byte, first int, l []api.Setting) ([]operation, api.Errno) {
	if e := m.refuses(l); e != api.OK || len(l) == 0 {
		return nil, e
	}
	b := batch(l...)
	if m.active >= 0 && allErased(sectors[m.active][m.tail:]) && len(b) <= size-m.tail {
		return []operation{programs((first+m.active)*size+m.tail, b...)}, api.OK
	}
	if m.generation == api.MaxGeneration {
		return nil, api.ErrLimit
	}
	other := 0
	if m.active == 0 {
		other = 1
	}
	return moves(first+other, uint32(m.generation+1), applied(m.values, l), !allErased(sectors[other])), api.OK
}

func allErased(b []byte) bool {
	for _, x := range b {
		if x != 0xFF {
			return false
		}
	}
	return true
}

func (m model) refuses(l []api.Setting) api.Errno {
	if len(l) > 32 {
		return api.ErrLimit
	}
	for i, x := range l {
		if len(x.Value) > 28 || x.Delete && len(x.Value) > 0 {
			return api.ErrInvalid
		}
		for _, y := range l[:i] {
			if x.Key == y.Key {
				return api.ErrDuplicate
			}
		}
	}
	if len(applied(m.values, l)) > 32 {
		return api.ErrLimit
	}
	return api.OK
}

// drawList returns changes of keys that come often, most of them without an error.
func drawList(r *rand.Rand) []api.Setting {
	n := []int{0, 1, 1, 1, 1, 2, 3, 5, 12, 32, 33}[r.Intn(11)]
	keys := r.Perm([]int{6, 34, 256}[r.Intn(3)])
	var l []api.Setting
	for i := range n {
		x := api.Setting{Key: uint8(keys[i%len(keys)])}
		if r.Intn(60) == 0 {
			x.Key = uint8(r.Intn(6))
		}
		length := []int{0, 1, 2, 12, 27, 28}[r.Intn(6)]
		if r.Intn(150) == 0 {
			length = 29
		}
		x.Delete = r.Intn(3) == 0
		if !x.Delete || r.Intn(150) == 0 {
			x.Value = make([]byte, length)
			r.Read(x.Value)
		}
		l = append(l, x)
	}
	return l
}

func drawLists(r *rand.Rand, n int) [][]api.Setting {
	var l [][]api.Setting
	for range n {
		l = append(l, drawList(r))
	}
	return l
}

// drawSector returns the bytes of a sector: most often batches, with some bytes that are changed or cut off.
func drawSector(r *rand.Rand) []byte {
	status := []byte{0, 0, 0, 0, 0xFF, 1}[r.Intn(6)]
	generations := []uint32{0, 1, 2, 3, 4, 1<<31 - 1, 1 << 31, 1<<31 + 1}
	b := sector(generations[r.Intn(8)], status)
	for range r.Intn(20) {
		b = append(b, batch(drawList(r)...)...)
	}
	if r.Intn(3) == 0 {
		b = b[:r.Intn(len(b)+1)]
	}
	for range r.Intn(3) {
		if len(b) > 5 && r.Intn(2) == 0 {
			b[5+r.Intn(len(b)-5)] = byte(r.Intn(256))
		}
	}
	return b[:min(len(b), size)]
}

// run is a world whose store is compared with a model.
type run struct {
	world
	ended    bool
	failures int
	moved    int
	errors   map[api.Errno]int
}

func (x *run) sectors(t *testing.T) [2][]byte {
	t.Helper()
	b := content(t, x.d)[x.first*size:]
	return [2][]byte{b[:size], b[size : 2*size]}
}

// update makes an update, for which the device may be armed, of the store and of the model.
func (x *run) update(t *testing.T, what string, l []api.Setting) {
	t.Helper()
	sectors := x.sectors(t)
	operations, want := modelOf(sectors).update(sectors, x.first, l)
	plain := x.d.Clone()
	if x.ended || x.d.Down() {
		operations, want = nil, api.ErrPower
	}
	if runAll(plain, operations) != api.OK {
		want = api.ErrPower
		x.failures++
	}
	if len(operations) > 1 {
		x.moved++
	}
	x.errors[want]++
	checkErrno(t, what, x.s.Update(l), want)
	checkSame(t, what, x.d, plain)
	x.ended = x.ended || want == api.ErrPower
	x.check(t, what)
}

func (x *run) check(t *testing.T, what string) {
	t.Helper()
	if x.ended {
		checkStore(t, what+", ended", x.s, 0)
		return
	}
	m := modelOf(x.sectors(t))
	checkStore(t, what, x.s, m.generation, m.values...)
}

func (x *run) reopen(t *testing.T, what string) {
	t.Helper()
	x.d.Restore()
	x.s, x.ended = open(t, x.d, x.first), false
	x.check(t, what+", opened again")
}

// drawRun makes updates, some of them with power failures, of a store that is opened again from time to time.
func (x *run) drawRun(t *testing.T, r *rand.Rand, what string, n int) {
	t.Helper()
	for i := range n {
		name := fmt.Sprintf("%s, update %d", what, i)
		if r.Intn(6) == 0 {
			x.d.Arm(1+r.Intn([]int{5, 40, 1000}[r.Intn(3)]), []uint8{0, 0xFF, uint8(r.Intn(256))}[r.Intn(3)])
		}
		l := drawList(r)
		before, refused := modelOf(x.sectors(t)).values, x.ended || x.d.Down()
		x.update(t, name, l)
		if now := modelOf(x.sectors(t)).values; x.ended && !equalSettings(now, before) && (refused || !equalSettings(now, applied(before, l))) {
			t.Errorf("%s: the settings were %v and are %v", name, before, now)
		}
		if x.ended && r.Intn(3) != 0 || r.Intn(10) == 0 {
			x.reopen(t, name)
		}
		if t.Failed() {
			t.FailNow()
		}
	}
}

// P6.1 to P6.5
func TestDrawnUpdates(t *testing.T) {
	failures, moved, errors := 0, 0, map[api.Errno]int{}
	for seed := range int64(150) {
		r := rand.New(rand.NewSource(seed))
		first := r.Intn(3)
		d := newDevice(t, 4, size)
		x := &run{world: *newWorld(t, d, first), errors: errors}
		x.drawRun(t, r, fmt.Sprintf("seed %d", seed), 60)
		failures += x.failures
		moved += x.moved
	}
	for _, e := range []api.Errno{api.ErrPower, api.ErrLimit, api.ErrInvalid, api.ErrDuplicate, api.OK} {
		if errors[e] < 100 {
			t.Errorf("only %d updates with error %d", errors[e], e)
		}
	}
	if failures < 300 || moved < 500 {
		t.Errorf("only %d failures, and %d changes of the sector", failures, moved)
	}
}

// P6.1 to P6.5: from sectors with all sorts of bytes.
func TestDrawnSectors(t *testing.T) {
	kinds := map[int]int{}
	for seed := range int64(1500) {
		r := rand.New(rand.NewSource(seed))
		d := deviceWith(t, drawSector(r), drawSector(r))
		x := &run{world: *newWorld(t, d, 1), errors: map[api.Errno]int{}}
		kinds[modelOf(x.sectors(t)).active]++
		x.check(t, fmt.Sprintf("seed %d", seed))
		x.drawRun(t, r, fmt.Sprintf("seed %d", seed), 3)
	}
	for active := -1; active <= 1; active++ {
		if kinds[active] < 200 {
			t.Errorf("only %d devices with the active sector %d", kinds[active], active)
		}
	}
}

// P6.3: all sequences of a few updates of sectors that are nearly full.
func TestAllShortSequences(t *testing.T) {
	alphabet := [][]api.Setting{
		nil, {put(1)}, {put(1, 2, 3)}, {remove(1)}, {put(2, 2), remove(1)}, several(0, 32, 28), deletions(0, 32), several(30, 3, 1), several(1, 33, 0),
	}
	const length = 3
	count := 1
	for range length {
		count *= len(alphabet)
	}
	old := several(0, 30, 28)
	start := deviceWith(t, sector(1, 0, batch(put(5))), sector(2, 0, batch(old...), filled(size-5-902-12)))
	for i := range count {
		x := &run{world: *newWorld(t, start.Clone(), 1), errors: map[api.Errno]int{}}
		// Each sequence has the digits of a number, so that no two are equal.
		for rest, n := i, 0; n < length; n++ {
			x.update(t, fmt.Sprintf("sequence %d, update %d", i, n), alphabet[rest%len(alphabet)])
			rest /= len(alphabet)
		}
		if t.Failed() {
			t.FailNow()
		}
	}
}

// Consequences: opening again without a power failure leads to the same settings.
func TestOpenAgain(t *testing.T) {
	for seed := range int64(60) {
		r := rand.New(rand.NewSource(seed))
		d := deviceWith(t, drawSector(r), drawSector(r))
		s := open(t, d, 1)
		for i := range 20 {
			s.Update(drawList(r))
			generation, l := s.Generation(), s.All()
			checkStore(t, fmt.Sprintf("seed %d, update %d", seed, i), open(t, d, 1), generation, l...)
		}
	}
}

// P6.3, Consequences: a power failure at each step of drawn updates, each with bits that are drawn.
func TestFailuresAtEachStep(t *testing.T) {
	for seed := range int64(40) {
		r := rand.New(rand.NewSource(seed))
		d := deviceWith(t, drawSector(r), drawSector(r))
		l := drawList(r)
		done := d.Clone()
		s := open(t, done, 1)
		before := s.All()
		if s.Update(l) != api.OK {
			continue
		}
		after := s.All()
		steps := done.Steps() - d.Steps()
		for step := 1; step <= steps; step++ {
			c := d.Clone()
			s := open(t, c, 1)
			c.Arm(step, uint8(r.Intn(256)))
			checkErrno(t, "the failing update", s.Update(l), api.ErrPower)
			c.Restore()
			s = open(t, c, 1)
			if again := s.All(); !equalSettings(again, before) && !equalSettings(again, after) {
				t.Errorf("seed %d, step %d: the settings were %v and are %v", seed, step, before, again)
			}
		}
	}
}

// R1
func FuzzSectors(f *testing.F) {
	f.Add([]byte(nil), []byte(nil), int64(1))
	f.Add(sector(2, 0, batch(put(1, 2), remove(3))), sector(2, 0, []byte{1, 1}), int64(2))
	f.Add(sector(1<<31, 0, filled(1010)), sector(1<<31-1, 0), int64(3))
	f.Fuzz(func(t *testing.T, low, high []byte, seed int64) {
		d := deviceWith(t, low[:min(len(low), size)], high[:min(len(high), size)])
		x := &run{world: *newWorld(t, d, 1), errors: map[api.Errno]int{}}
		x.check(t, "opened")
		r := rand.New(rand.NewSource(seed))
		x.drawRun(t, r, "fuzzed", 10)
		if slices.ContainsFunc(x.s.All(), func(y api.Setting) bool { return y.Delete || len(y.Value) > 28 }) {
			t.Errorf("the settings are %v", x.s.All())
		}
	})
}
