package eventlog_test

import (
	"bytes"
	"encoding/binary"
	"slices"
	"testing"

	"baseboard/api"
	"baseboard/event"
	"baseboard/eventlog"
	"baseboard/flash"
)

// Most tests use sectors with three slots and two bytes behind them.
const (
	small = 64
	k     = 3
)

// torns are what the tests tear failing steps with.
var torns = []uint8{0, 0xFF, 0x01, 0x80, 0x55, 0x1C}

func newDevice(t *testing.T, sectors, size int) *flash.Device {
	t.Helper()
	d, e := flash.New(sectors, size)
	if e != api.OK {
		t.Fatalf("New of %d sectors of %d bytes returns error %d", sectors, size, e)
	}
	return d
}

func program(t *testing.T, d *flash.Device, at int, b ...byte) {
	t.Helper()
	if e := d.Program(at, b); e != api.OK {
		t.Fatalf("Program of % X at %d returns error %d", b, at, e)
	}
}

// takeDown takes a device down without a change of its bytes.
func takeDown(t *testing.T, d *flash.Device) {
	t.Helper()
	d.Arm(1, 0xFF)
	if e := d.Program(0, []byte{0xFF}); e != api.ErrPower || !d.Down() {
		t.Fatalf("the power does not fail: error %d", e)
	}
}

// deviceWith returns a device of small sectors that begin with the given bytes, with a sector in front of them and one behind them. Those two look like sectors of a log, with records 7777 and 8888.
func deviceWith(t *testing.T, l ...[]byte) *flash.Device {
	t.Helper()
	d := newDevice(t, len(l)+2, small)
	program(t, d, 0, sector(head(uint32(len(l)), uint32(len(l)), 7777), slot(sample(7777)))...)
	for i, b := range l {
		program(t, d, (i+1)*small, b...)
	}
	program(t, d, (len(l)+1)*small, sector(head(uint32(len(l)+1), uint32(len(l)+1), 8888), slot(sample(8888)))...)
	return d
}

// headWith returns the header of a sector.
func headWith(sequence, tail uint32, firstID uint16, status byte) []byte {
	b := binary.LittleEndian.AppendUint32(nil, sequence)
	b = binary.LittleEndian.AppendUint32(b, tail)
	return append(binary.LittleEndian.AppendUint16(b, firstID), status)
}

func head(sequence, tail uint32, firstID uint16) []byte { return headWith(sequence, tail, firstID, 0) }

// slot returns a slot with the status 00.
func slot(e api.Event) []byte { return append(encoded(e), 0) }

func encoded(e api.Event) []byte {
	b, err := event.Encode(e)
	if err != api.OK {
		panic(err)
	}
	return b
}

func free() []byte { return bytes.Repeat([]byte{0xFF}, 17) }

func sector(head []byte, slots ...[]byte) []byte { return append(head, slices.Concat(slots...)...) }

// sample returns an event with an ID, from which its other fields are computed.
func sample(id uint16) api.Event {
	return api.Event{
		ID: id, Time: 1000 + uint32(id)*65537, Generator: 0x20 + id, SensorType: uint8(id >> 3), Sensor: uint8(id),
		Type: uint8(id) & 0x7F, Deassert: id%2 == 1, Data: [3]uint8{uint8(id >> 8), uint8(id) ^ 0xFF, uint8(id % 100)},
	}
}

func samples(ids ...uint16) []api.Event {
	var l []api.Event
	for _, id := range ids {
		l = append(l, sample(id))
	}
	return l
}

// fresh returns the sample with this ID, but without the ID.
func fresh(id uint16) api.Event {
	e := sample(id)
	e.ID = 0
	return e
}

// full returns a sector all of whose slots are valid, with the IDs from firstID on.
func full(sequence, tail uint32, firstID uint16) []byte {
	return sector(head(sequence, tail, firstID), slot(sample(firstID)), slot(sample(firstID+1)), slot(sample(firstID+2)))
}

// spoiled returns slots that are neither free nor valid.
func spoiled() map[string][]byte {
	l := map[string][]byte{
		"zeros":        make([]byte, 17),
		"only status":  append(bytes.Repeat([]byte{0xFF}, 16), 0),
		"ID 0":         slot(sample(0)),
		"no status":    append(encoded(sample(5)), 0xFF),
		"status 01":    append(encoded(sample(5)), 0x01),
		"status 80":    append(encoded(sample(5)), 0x80),
		"status 7F":    append(encoded(sample(5)), 0x7F),
		"ID 65535":     changed(slot(sample(5)), 0, 0xFF, 0xFF),
		"wrong time":   changed(slot(sample(5)), 3, 0xFF, 0xFF, 0xFF, 0xFF),
		"no record":    changed(slot(sample(5)), 2, 0x03),
		"wrong tenth":  changed(slot(sample(5)), 9, 0x84),
		"half":         changed(free(), 0, encoded(sample(5))[:8]...),
		"first bit":    changed(free(), 0, 0xFE),
		"last bit":     changed(free(), 15, 0x7F),
		"status alone": changed(free(), 16, 0xFE),
	}
	return l
}

func changed(b []byte, at int, with ...byte) []byte {
	b = slices.Clone(b)
	copy(b[at:], with)
	return b
}

func open(t *testing.T, d *flash.Device, first, sectors int, overwrite bool) *eventlog.Log {
	t.Helper()
	g, e := eventlog.Open(d, first, sectors, overwrite)
	if g == nil || e != api.OK {
		t.Fatalf("Open at sector %d of %d sectors is %p, error %d", first, sectors, g, e)
	}
	return g
}

// content returns all bytes of a device, also of one that is down.
func content(t *testing.T, d *flash.Device) []byte {
	t.Helper()
	c := d.Clone()
	c.Restore()
	b, e := c.Read(0, c.Sectors()*c.Size())
	if e != api.OK {
		t.Fatalf("the bytes cannot be read, error %d", e)
	}
	return b
}

// checkSame checks that two devices are equal in all that can be seen without a change of them.
func checkSame(t *testing.T, what string, d, want *flash.Device) {
	t.Helper()
	if got, wanted := content(t, d), content(t, want); !bytes.Equal(got, wanted) {
		i := 0
		for got[i] == wanted[i] {
			i++
		}
		t.Errorf("%s: the first byte that differs, at %d of sector %d, is %02X, not %02X", what, i%d.Size(), i/d.Size(), got[i], wanted[i])
	}
	if d.Down() != want.Down() || d.Steps() != want.Steps() || !slices.Equal(d.Wear(), want.Wear()) {
		t.Errorf("%s: down is %t, the steps are %d, the wear is %v, not %t, %d, %v", what, d.Down(), d.Steps(), d.Wear(), want.Down(), want.Steps(), want.Wear())
	}
}

// stepsLeft returns the number of the step at which the power of a device fails, or 0 if it does not within limit steps.
func stepsLeft(d *flash.Device, limit int) int {
	c := d.Clone()
	for n := 1; n <= limit; n++ {
		if c.Program(0, []byte{0xFF}) == api.ErrPower {
			return n
		}
	}
	return 0
}

func checkErrno(t *testing.T, what string, e, want api.Errno) {
	t.Helper()
	if e != want {
		t.Errorf("%s: error %d, not %d", what, e, want)
	}
}

func checkAdd(t *testing.T, what string, g *eventlog.Log, e api.Event, id uint16, want api.Errno) {
	t.Helper()
	if got, err := g.Add(e); got != id || err != want {
		t.Errorf("%s: Add returns %d, error %d, not %d, %d", what, got, err, id, want)
	}
}

// checkLog checks what can be seen of a log, with Get of the IDs of the records, of those beside them, and of a few more.
func checkLog(t *testing.T, what string, g *eventlog.Log, isFull bool, want ...api.Event) {
	t.Helper()
	if l := g.Records(); !slices.Equal(l, want) {
		t.Errorf("%s: the records are %v, not %v", what, l, want)
	}
	if n := g.Len(); n != len(want) {
		t.Errorf("%s: the length is %d, not %d", what, n, len(want))
	}
	if g.Full() != isFull {
		t.Errorf("%s: Full is %t", what, !isFull)
	}
	ids := []uint16{0, 1, 5, 7777, 8888, 65534, 65535}
	for _, e := range want {
		ids = append(ids, e.ID-1, e.ID, e.ID+1)
	}
	checkGet(t, what, g, ids, want)
}

// checkGet checks Get of IDs.
func checkGet(t *testing.T, what string, g *eventlog.Log, ids []uint16, records []api.Event) {
	t.Helper()
	type answer struct {
		e    api.Event
		next uint16
		err  api.Errno
	}
	answers := map[uint16]answer{}
	next := uint16(0)
	for _, e := range slices.Backward(records) {
		answers[e.ID] = answer{e, next, api.OK}
		next = e.ID
	}
	if len(records) > 0 {
		answers[0] = answers[next]
	}
	for _, id := range ids {
		want, ok := answers[id]
		if !ok {
			want.err = api.ErrMissing
		}
		var got answer
		if got.e, got.next, got.err = g.Get(id); got != want {
			t.Errorf("%s: Get of %d is %v, not %v", what, id, got, want)
		}
	}
}

// checkEnded checks that a log has ended, whatever it is asked.
func checkEnded(t *testing.T, what string, g *eventlog.Log, d *flash.Device) {
	t.Helper()
	before, left := d.Clone(), stepsLeft(d, 20)
	for range 2 {
		checkLog(t, what+", ended", g, false)
		for _, e := range []api.Event{fresh(1), sample(1), {Type: 0x80}} {
			checkAdd(t, what+", ended", g, e, 0, api.ErrPower)
		}
		if n := g.Reserve(); n != 0 {
			t.Errorf("%s: Reserve of a log that has ended is %d", what, n)
		}
		for _, n := range []uint16{0, 1, 2, 65535} {
			checkErrno(t, what+", ended, Clear", g.Clear(n), api.ErrPower)
		}
	}
	checkSame(t, what+": a log that has ended", d, before)
	if n := stepsLeft(d, 20); n != left {
		t.Errorf("%s: the power of the device of a log that has ended fails at step %d, not %d", what, n, left)
	}
}

// operation is an operation on a device.
type operation struct {
	erase bool
	at    int // the sector that is erased, or the offset of the bytes
	bytes []byte
}

func programs(at int, b ...byte) operation { return operation{at: at, bytes: b} }

func erases(sector int) operation { return operation{erase: true, at: sector} }

// opens are the operations that open a new sector of the device.
func opens(sector, size int, sequence, tail uint32, firstID uint16, erase bool) []operation {
	var l []operation
	if erase {
		l = append(l, erases(sector))
	}
	h := head(sequence, tail, firstID)
	return append(l, programs(sector*size, h[:10]...), programs(sector*size+10, h[10]))
}

// writes is the operation that writes a record to a slot of a sector of the device.
func writes(sector, size, i int, e api.Event) operation {
	return programs(sector*size+11+17*i, slot(e)...)
}

// runAll runs operations one after the other, up to the first one that fails.
func runAll(d *flash.Device, l []operation) api.Errno {
	for _, o := range l {
		e := api.OK
		if o.erase {
			e = d.Erase(o.at)
		} else {
			e = d.Program(o.at, o.bytes)
		}
		if e != api.OK {
			return e
		}
	}
	return api.OK
}

func countSteps(l []operation) int {
	n := 0
	for _, o := range l {
		n += len(o.bytes)
		if o.erase {
			n++
		}
	}
	return n
}
