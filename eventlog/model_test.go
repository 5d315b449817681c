package eventlog_test

import (
	"bytes"
	"encoding/binary"
	"fmt"
	"math/rand"
	"slices"
	"testing"

	"baseboard/api"
	"baseboard/event"
	"baseboard/eventlog"
	"baseboard/flash"
)

// model is what the chapter's section The format says of the bytes of a log. It reads them anew each time, so that it remembers nothing.
type model struct {
	sectors [][]byte
	newest  int // the sector of the log, -1 without one
	// The following are of the newest sector, in 64 bits so that nothing overflows.
	sequence, tail int64
	next           uint16 // ID
	used           int    // slots
	records        []api.Event
}

func bytesOf(x byte, n int) []byte { return bytes.Repeat([]byte{x}, n) }

func allErased(b []byte) bool { return bytes.Equal(b, bytesOf(0xFF, len(b))) }

// numbers returns the sequence number, the tail and the first ID of a header.
func numbers(b []byte) (int64, int64, int64) {
	return int64(binary.LittleEndian.Uint32(b)), int64(binary.LittleEndian.Uint32(b[4:])), int64(binary.LittleEndian.Uint16(b[8:]))
}

func (m model) isValid(j int) bool {
	n := int64(len(m.sectors))
	q, tail, id := numbers(m.sectors[j])
	switch {
	case m.sectors[j][10] != 0:
		return false
	case q == 0 || q > 2147483648 || q%n != (int64(j)+1)%n:
		return false
	case tail == 0 || tail > q || q > tail+n-2:
		return false
	}
	return id != 0 && id != 65535
}

func slotsOf(sector []byte) [][]byte {
	var l [][]byte
	for at := 11; at+17 <= len(sector); at += 17 {
		l = append(l, sector[at:at+17])
	}
	return l
}

func validEvents(sector []byte) []api.Event {
	var l []api.Event
	for _, s := range slotsOf(sector) {
		if e, err := event.Decode(s[:16]); err == api.OK && e.ID > 0 && s[16] == 0 {
			l = append(l, e)
		}
	}
	return l
}

func modelOf(sectors [][]byte) model {
	m := model{sectors: sectors, newest: -1, tail: 1, next: 1}
	for j := range sectors {
		if q, tail, id := numbers(sectors[j]); m.isValid(j) && q > m.sequence {
			m.newest, m.sequence, m.tail, m.next = j, q, tail, uint16(id)
		}
	}
	if m.newest < 0 {
		return m
	}
	for q := m.tail; q <= m.sequence; q++ {
		j := int((q - 1) % int64(len(sectors)))
		if got, _, _ := numbers(sectors[j]); m.isValid(j) && got == q {
			m.records = append(m.records, validEvents(sectors[j])...)
		}
	}
	for i, s := range slotsOf(sectors[m.newest]) {
		if !allErased(s) {
			m.used = i + 1
		}
	}
	if l := validEvents(sectors[m.newest]); len(l) > 0 {
		m.next = l[len(l)-1].ID%65534 + 1
	}
	return m
}

// opening returns the operations that open a new sector (P9.3).
func (m model) opening(first int, tail int64) ([]operation, api.Errno) {
	q := m.sequence + 1
	if q > 2147483648 {
		return nil, api.ErrLimit
	}
	j := int((q - 1) % int64(len(m.sectors)))
	return opens(first+j, len(m.sectors[j]), uint32(q), uint32(tail), m.next, !allErased(m.sectors[j])), api.OK
}

// add returns the operations of Add, and the ID (P9.4).
func (m model) add(first int, overwrite bool, e api.Event) ([]operation, uint16, api.Errno) {
	if e.ID != 0 || e.Time == 1<<32-1 || e.Type >= 0x80 {
		return nil, 0, api.ErrInvalid
	}
	e.ID = m.next
	size := len(m.sectors[0])
	if m.newest >= 0 && m.used < len(slotsOf(m.sectors[0])) {
		return []operation{writes(first+m.newest, size, m.used, e)}, m.next, api.OK
	}
	n, tail := int64(len(m.sectors)), m.tail
	if m.sequence+1-tail > n-2 {
		if !overwrite {
			return nil, 0, api.ErrFull
		}
		tail++
	}
	l, err := m.opening(first, tail)
	if err != api.OK {
		return nil, 0, err
	}
	return append(l, writes(first+int(m.sequence%n), size, 0, e)), m.next, api.OK
}

// clear returns the operations of a Clear with the right reservation (P9.7).
func (m model) clear(first int) ([]operation, api.Errno) {
	if len(m.records) == 0 {
		return nil, api.OK
	}
	return m.opening(first, m.sequence+1)
}

// run is a device with a log, and what the chapter says that the log remembers.
type run struct {
	d              *flash.Device
	first, sectors int
	overwrite      bool
	g              *eventlog.Log

	ended, full bool
	last        uint16 // reservation
	reserved    bool

	adds, clears     map[api.Errno]int
	failures, opened int
}

func newRun(t *testing.T, d *flash.Device, first, sectors int, overwrite bool) *run {
	t.Helper()
	x := &run{d: d, first: first, sectors: sectors, overwrite: overwrite, adds: map[api.Errno]int{}, clears: map[api.Errno]int{}}
	x.reopen(t, "opened")
	return x
}

func (x *run) reopen(t *testing.T, what string) {
	t.Helper()
	x.d.Restore()
	x.g = open(t, x.d, x.first, x.sectors, x.overwrite)
	x.ended, x.full, x.last, x.reserved = false, false, 0, false
	x.check(t, what)
}

func (x *run) model(t *testing.T) model {
	t.Helper()
	size := x.d.Size()
	b := content(t, x.d)[x.first*size:]
	var l [][]byte
	for j := range x.sectors {
		l = append(l, b[j*size:(j+1)*size])
	}
	return modelOf(l)
}

// check checks what can be seen of the log without a change of it.
func (x *run) check(t *testing.T, what string) {
	t.Helper()
	if x.ended {
		checkLog(t, what+", ended", x.g, false)
		return
	}
	checkLog(t, what, x.g, x.full, x.model(t).records...)
}

// after compares the device with one on which the operations were run, and returns the error that the call has to return. The device was armed before them as it is in plain.
func (x *run) after(t *testing.T, what string, plain *flash.Device, l []operation, want api.Errno) api.Errno {
	t.Helper()
	if x.ended || plain.Down() {
		l, want = nil, api.ErrPower
	} else if runAll(plain, l) != api.OK {
		want = api.ErrPower
		x.failures++
	}
	if len(l) > 1 {
		x.opened++
	}
	checkSame(t, what, x.d, plain)
	x.ended = x.ended || want == api.ErrPower
	return want
}

func (x *run) add(t *testing.T, what string, e api.Event) {
	t.Helper()
	l, id, want := x.model(t).add(x.first, x.overwrite, e)
	plain := x.d.Clone()
	got, err := x.g.Add(e)
	want = x.after(t, what, plain, l, want)
	if want != api.OK {
		id = 0
	}
	if got != id || err != want {
		t.Errorf("%s: Add of %v returns %d, error %d, not %d, %d", what, e, got, err, id, want)
	}
	x.full = x.full || want == api.ErrFull
	x.adds[want]++
	x.check(t, what)
}

func (x *run) reserve(t *testing.T, what string) uint16 {
	t.Helper()
	before := x.d.Clone()
	n := x.g.Reserve()
	checkSame(t, what+", Reserve", x.d, before)
	if x.ended {
		if n != 0 {
			t.Errorf("%s: Reserve returns %d", what, n)
		}
		return n
	}
	x.last = x.last%65535 + 1
	x.reserved = true
	if n != x.last {
		t.Errorf("%s: Reserve returns %d, not %d", what, n, x.last)
	}
	return n
}

func (x *run) clear(t *testing.T, what string, reservation uint16) {
	t.Helper()
	l, want := x.model(t).clear(x.first)
	if !x.reserved || reservation != x.last {
		l, want = nil, api.ErrReservation
	}
	plain := x.d.Clone()
	err := x.g.Clear(reservation)
	want = x.after(t, what, plain, l, want)
	if want == api.OK {
		x.full, x.reserved = false, false
	}
	checkErrno(t, what+", Clear", err, want)
	x.clears[want]++
	x.check(t, what)
}

// drawEvent returns an event that most often can be added.
func drawEvent(r *rand.Rand) api.Event {
	e := api.Event{
		Time: r.Uint32(), Generator: uint16(r.Uint32()), SensorType: uint8(r.Uint32()), Sensor: uint8(r.Uint32()), Type: uint8(r.Intn(128)),
		Deassert: r.Intn(2) == 0, Data: [3]uint8{uint8(r.Uint32()), uint8(r.Uint32()), uint8(r.Uint32())},
	}
	switch r.Intn(40) {
	case 0:
		e.ID = []uint16{1, 2, 65534, 65535}[r.Intn(4)]
	case 1:
		e.Time = 1<<32 - 1
	case 2:
		e.Type |= 0x80
	case 3:
		e = api.Event{}
	case 4:
		e = api.Event{Time: 1<<32 - 2, Generator: 65535, SensorType: 255, Sensor: 255, Type: 127, Deassert: true, Data: [3]uint8{255, 255, 255}}
	}
	return e
}

// step makes a drawn call.
func (x *run) step(t *testing.T, r *rand.Rand, what string) {
	t.Helper()
	switch r.Intn(40) {
	case 0, 1:
		x.reopen(t, what)
	case 2:
		x.reserve(t, what)
	case 3, 4:
		x.clear(t, what, x.reserve(t, what))
	case 5:
		x.clear(t, what, []uint16{0, x.last, x.last + 1, x.last - 1, uint16(r.Uint32())}[r.Intn(5)])
	default:
		x.add(t, what, drawEvent(r))
	}
}

// arm makes the power fail at one of the next steps, now and then.
func (x *run) arm(r *rand.Rand) {
	if r.Intn(8) == 0 {
		x.d.Arm(1+r.Intn([]int{3, 12, 30, 200}[r.Intn(4)]), []uint8{0, 0, 0xFF, uint8(r.Uint32())}[r.Intn(4)])
	}
}

// drawSteps makes drawn calls, some of them with power failures.
func (x *run) drawSteps(t *testing.T, r *rand.Rand, what string, n int) {
	t.Helper()
	for i := range n {
		name := fmt.Sprintf("%s, step %d", what, i)
		x.arm(r)
		before := x.model(t)
		x.step(t, r, name)
		x.checkChange(t, name, before)
		if x.ended && r.Intn(3) != 0 {
			x.reopen(t, name)
		}
		if t.Failed() {
			t.FailNow()
		}
	}
}

// checkChange checks that the records in the flash device are those from before, with a new one, without those of the oldest sector, or none.
func (x *run) checkChange(t *testing.T, what string, before model) {
	t.Helper()
	now := x.model(t).records
	if len(now) == 0 {
		return
	}
	rest := now
	if n := len(now) - 1; !slices.Contains(before.records, now[n]) {
		rest = now[:n]
	}
	dropped := len(before.records) - len(rest)
	if dropped < 0 || dropped > len(slotsOf(before.sectors[0])) || !slices.Equal(before.records[dropped:], rest) {
		t.Errorf("%s: the records were %v and are %v", what, before.records, now)
	}
	if dropped > 0 && !x.overwrite {
		t.Errorf("%s: %d records are gone", what, dropped)
	}
}

func drawDevice(t *testing.T, r *rand.Rand, sectors int) *flash.Device {
	t.Helper()
	return newDevice(t, sectors, []int{64, 64, 64, 79, 96, 130, 200}[r.Intn(7)])
}

// P9.2 to P9.8
func TestDrawnSteps(t *testing.T) {
	adds, clears, failures, opened := map[api.Errno]int{}, map[api.Errno]int{}, 0, 0
	for seed := range int64(300) {
		r := rand.New(rand.NewSource(seed))
		sectors, first := 2+r.Intn(4), r.Intn(3)
		x := newRun(t, drawDevice(t, r, first+sectors+r.Intn(2)), first, sectors, seed%2 == 0)
		x.adds, x.clears = adds, clears
		x.drawSteps(t, r, fmt.Sprintf("seed %d", seed), 100)
		failures += x.failures
		opened += x.opened
	}
	for _, e := range []api.Errno{api.ErrPower, api.ErrInvalid, api.ErrFull, api.OK} {
		if adds[e] < 500 {
			t.Errorf("only %d Adds with error %d", adds[e], e)
		}
	}
	for _, e := range []api.Errno{api.ErrPower, api.ErrReservation, api.OK} {
		if clears[e] < 300 {
			t.Errorf("only %d Clears with error %d", clears[e], e)
		}
	}
	if failures < 1000 || opened < 2000 {
		t.Errorf("only %d failures, and %d new sectors", failures, opened)
	}
}

// drawSector returns the bytes of sector j of a log, often with a valid header that is near a sequence number.
func drawSector(r *rand.Rand, j, sectors, size int, near int64) []byte {
	q := near + int64(r.Intn(2*sectors)) - int64(sectors)
	if r.Intn(8) != 0 {
		for (q-1)%int64(sectors) != int64(j) {
			q++
		}
	}
	tail := q - int64(r.Intn(sectors))
	id := []uint16{0, 1, 2, 65530, 65533, 65534, 65535, uint16(r.Intn(65536))}[r.Intn(8)]
	status := []byte{0, 0, 0, 0, 0, 0xFF, 1}[r.Intn(7)]
	b := headWith(uint32(q), uint32(tail), id, status)
	for len(b)+17 <= size {
		b = append(b, drawSlot(r, id)...)
		id++
	}
	if r.Intn(3) == 0 {
		b = b[:r.Intn(len(b)+1)]
	}
	if r.Intn(6) == 0 {
		b = append(b, bytesOf(byte(r.Uint32()), size-len(b))...)
	}
	return b
}

func drawSlot(r *rand.Rand, id uint16) []byte {
	if r.Intn(4) == 0 {
		kinds := slotKinds()
		return kinds[r.Intn(len(kinds))].bytes
	}
	if id == 65535 || r.Intn(8) == 0 {
		return free()
	}
	return slot(sample(id))
}

// P9.2 to P9.8: from sectors with all sorts of bytes, also with sequence numbers at the limits.
func TestDrawnSectors(t *testing.T) {
	kinds, limits, fulls := map[string]int{}, 0, 0
	for seed := range int64(2500) {
		r := rand.New(rand.NewSource(seed))
		sectors := 2 + r.Intn(4)
		near := []int64{1, 3, 10, 1000, 1 << 31, 1<<31 - int64(r.Intn(4))}[r.Intn(6)]
		var l [][]byte
		for j := range sectors {
			l = append(l, nil)
			if r.Intn(5) != 0 {
				l[j] = drawSector(r, j, sectors, small, near)
			}
		}
		x := newRun(t, deviceWith(t, l...), 1, sectors, r.Intn(2) == 0)
		m := x.model(t)
		kinds[fmt.Sprintf("newest is there: %t, records: %t, room: %t", m.newest >= 0, len(m.records) > 0, m.used < k)]++
		x.drawSteps(t, r, fmt.Sprintf("seed %d", seed), 12)
		limits += x.adds[api.ErrLimit]
		fulls += x.adds[api.ErrFull]
	}
	for name, n := range kinds {
		if n < 15 {
			t.Errorf("%s: only %d logs", name, n)
		}
	}
	if len(kinds) != 5 || limits < 200 || fulls < 500 {
		t.Errorf("%v, %d errors of a limit, %d logs without room", kinds, limits, fulls)
	}
}

// P9.3 to P9.8: all sequences of a few calls of a log that is nearly full, with and without a power failure.
func TestAllShortSequences(t *testing.T) {
	calls := []func(x *run, what string){
		func(x *run, what string) { x.add(t, what, fresh(77)) },
		func(x *run, what string) { x.add(t, what, sample(77)) },
		func(x *run, what string) { x.reserve(t, what) },
		func(x *run, what string) { x.clear(t, what, x.last) },
		func(x *run, what string) { x.clear(t, what, x.last+1) },
		func(x *run, what string) { x.reopen(t, what) },
		func(x *run, what string) { x.d.Arm(12, 0x55) },
		func(x *run, what string) { x.d.Restore() },
	}
	const length = 4
	count := 1
	for range length {
		count *= len(calls)
	}
	start := deviceWith(t, full(4, 3, 65533-5), full(2, 1, 30), full(3, 2, 65533-2-6))
	program(t, start, 1*small+62, 0)
	almost := deviceWith(t, sector(head(4, 4, 8), slot(sample(8)), slot(sample(9))), full(2, 1, 30), full(3, 2, 3))
	for i := range count {
		for j, d := range []*flash.Device{start, almost} {
			x := newRun(t, d.Clone(), 1, 3, i%3 != 0)
			// Each sequence has the digits of a number, so that no two are equal.
			for rest, n := i, 0; n < length; n++ {
				calls[rest%len(calls)](x, fmt.Sprintf("device %d, sequence %d, call %d", j, i, n))
				rest /= len(calls)
			}
			if t.Failed() {
				t.FailNow()
			}
		}
	}
}

// Consequences: on a new device, without power failures, the wear of the sectors differs by at most 1, an Add erases at most one sector and programs at most 28 bytes, and neighbouring IDs follow each other, also over Clear and over Open.
func TestManyAdds(t *testing.T) {
	for seed := range int64(60) {
		r := rand.New(rand.NewSource(seed))
		sectors, first := 2+r.Intn(5), r.Intn(3)
		d := drawDevice(t, r, first+sectors)
		records, _, _ := eventlog.Capacity(sectors, d.Size())
		g := open(t, d, first, sectors, true)
		id := uint16(0)
		for i := range 40 * records / sectors {
			what := fmt.Sprintf("seed %d, step %d", seed, i)
			switch r.Intn(30) {
			case 0:
				checkErrno(t, what, g.Clear(g.Reserve()), api.OK)
			case 1:
				g = open(t, d, first, sectors, true)
			}
			before := d.Clone()
			n, err := g.Add(drawEvent(r))
			if err != api.OK {
				checkErrno(t, what, err, api.ErrInvalid)
				checkSame(t, what, d, before)
				continue
			}
			id++
			if n != id {
				t.Errorf("%s: the ID is %d, not %d", what, n, id)
			}
			checkEffort(t, what, before, d)
			checkWear(t, what, d.Wear()[first:])
			checkNeighbours(t, what, g.Records(), id)
			checkLog(t, what, open(t, d, first, sectors, true), false, g.Records()...)
		}
		if wear := d.Wear(); slices.Max(wear) < 2 || first > 0 && slices.Max(wear[:first]) > 0 {
			t.Errorf("seed %d: the wear is %v", seed, wear)
		}
	}
}

// checkEffort checks what an Add cost.
func checkEffort(t *testing.T, what string, before, after *flash.Device) {
	t.Helper()
	erasures := 0
	for i, n := range after.Wear() {
		erasures += n - before.Wear()[i]
	}
	if bytes := after.Steps() - before.Steps() - erasures; erasures > 1 || bytes > 28 || bytes < 17 {
		t.Errorf("%s: an Add erases %d sectors and programs %d bytes", what, erasures, bytes)
	}
}

func checkWear(t *testing.T, what string, wear []int) {
	t.Helper()
	if slices.Max(wear)-slices.Min(wear) > 1 {
		t.Errorf("%s: the wear is %v", what, wear)
	}
}

// checkNeighbours checks that the IDs follow each other, up to the last one.
func checkNeighbours(t *testing.T, what string, l []api.Event, last uint16) {
	t.Helper()
	for _, e := range slices.Backward(l) {
		if e.ID != last {
			t.Errorf("%s: a record has the ID %d, not %d", what, e.ID, last)
		}
		if last--; last == 0 {
			last = 65534
		}
	}
}

// Consequences: IDs go round, with neighbouring ones following each other, over the greatest one; opening again does not change this.
func TestIDsGoRound(t *testing.T) {
	d := deviceWith(t, sector(head(1, 1, 65500)), nil, nil)
	g := open(t, d, 1, 3, true)
	id := uint16(65499)
	for i := range 80 {
		what := fmt.Sprintf("record %d", i)
		id = id%65534 + 1
		checkAdd(t, what, g, fresh(uint16(i)), id, api.OK)
		checkNeighbours(t, what, g.Records(), id)
		if i%5 == 0 {
			g = open(t, d, 1, 3, true)
		}
		if i%7 == 0 {
			checkErrno(t, what, g.Clear(g.Reserve()), api.OK)
		}
	}
	if id != 45 {
		t.Errorf("the last ID is %d", id)
	}
}

// Consequences: without a power failure the records are those that were added since the last Clear, and as long as there are no more than Capacity, all of them.
func TestNothingIsLost(t *testing.T) {
	refused := 0
	for seed := range int64(60) {
		r := rand.New(rand.NewSource(seed))
		sectors := 2 + r.Intn(5)
		d := drawDevice(t, r, sectors)
		records, dropped, _ := eventlog.Capacity(sectors, d.Size())
		g := open(t, d, 0, sectors, seed%2 == 0)
		var l []api.Event
		for i := range 5 * records {
			what := fmt.Sprintf("seed %d, step %d", seed, i)
			if r.Intn(2*records) == 0 {
				checkErrno(t, what, g.Clear(g.Reserve()), api.OK)
				l = nil
			}
			e := fresh(uint16(i + 1))
			id, err := g.Add(e)
			if err != api.OK {
				refused++
				checkErrno(t, what, err, api.ErrFull)
				if len(l) < records || seed%2 == 0 {
					t.Errorf("%s: refused with %d records", what, len(l))
				}
				continue
			}
			e.ID = id
			if l = append(l, e); len(l) > records {
				l = l[dropped:]
			}
			if !slices.Equal(g.Records(), l) {
				t.Errorf("%s: the records are %v, not %v", what, g.Records(), l)
			}
		}
	}
	if refused < 100 {
		t.Errorf("only %d records were refused", refused)
	}
}

// R1
func FuzzSectors(f *testing.F) {
	f.Add([]byte(nil), []byte(nil), []byte(nil), int64(1), false)
	f.Add(full(1, 1, 1), full(2, 1, 4), []byte(nil), int64(2), true)
	f.Add(full(1<<31, 1<<31-1, 65530), full(1<<31-1, 1<<31-1, 65527), make([]byte, 64), int64(3), true)
	f.Fuzz(func(t *testing.T, a, b, c []byte, seed int64, overwrite bool) {
		d := deviceWith(t, a[:min(len(a), small)], b[:min(len(b), small)], c[:min(len(c), small)])
		x := newRun(t, d, 1, 3, overwrite)
		x.drawSteps(t, rand.New(rand.NewSource(seed)), "fuzzed", 20)
	})
}
