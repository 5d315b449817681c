package eventlog_test

import (
	"fmt"
	"slices"
	"testing"

	"baseboard/api"
)

// with returns operations with another one behind them.
func with(l []operation, o operation) []operation { return append(slices.Clone(l), o) }

// P9.3, P9.4, P9.8: the operations of the first records of an erased device, with failures at each of their steps.
func TestFirstRecords(t *testing.T) {
	for _, overwrite := range []bool{false, true} {
		w := newWorld(t, deviceWith(t, nil, nil, nil, nil), overwrite)
		w.check(t, "erased", false)
		w.add(t, "record 1", fresh(1), 1, with(opens(1, small, 1, 1, 1, false), writes(1, small, 0, sample(1)))...)
		w.check(t, "record 1", false, samples(1)...)
		w.add(t, "record 2", fresh(2), 2, writes(1, small, 1, sample(2)))
		w.check(t, "record 2", false, samples(1, 2)...)
		w.add(t, "record 3", fresh(3), 3, writes(1, small, 2, sample(3)))
		w.check(t, "record 3", false, samples(1, 2, 3)...)
		w.add(t, "record 4", fresh(4), 4, with(opens(2, small, 2, 1, 4, false), writes(2, small, 0, sample(4)))...)
		w.check(t, "record 4", false, samples(1, 2, 3, 4)...)
	}
}

// P9.4: the bytes of a record, written down by hand.
func TestBytesOfLog(t *testing.T) {
	d := newDevice(t, 2, small)
	g := open(t, d, 0, 2, false)
	checkAdd(t, "Add", g, api.Event{Time: 0x56789ABC, Generator: 0xDEF0, SensorType: 0x11, Sensor: 0x22, Type: 0x33, Deassert: true, Data: [3]uint8{0xAB, 0xCD, 0xEF}}, 1, api.OK)
	want := append([]byte{
		1, 0, 0, 0, 1, 0, 0, 0, 1, 0, 0,
		1, 0, 2, 0xBC, 0x9A, 0x78, 0x56, 0xF0, 0xDE, 4, 0x11, 0x22, 0xB3, 0xAB, 0xCD, 0xEF, 0,
	}, bytesOf(0xFF, 2*small-28)...)
	if b := content(t, d); !slices.Equal(b, want) {
		t.Errorf("the bytes are % X, not % X", b, want)
	}
}

// P9.4: numbers that need all of their bytes.
func TestBytesOfHeader(t *testing.T) {
	d := deviceWith(t, nil, full(0x01020304-2, 0x01020304-2, 0x0A0B-3), nil)
	w := newWorld(t, d, false)
	e := sample(0x0A0B)
	w.add(t, "Add", fresh(0x0A0B), 0x0A0B,
		programs(3*small, 0x03, 0x03, 0x02, 0x01, 0x02, 0x03, 0x02, 0x01, 0x0B, 0x0A), programs(3*small+10, 0), writes(3, small, 0, e))
	w.check(t, "Add", false, samples(0x0A08, 0x0A09, 0x0A0A, 0x0A0B)...)
}

// P9.3, P9.4, Examples 2: two rounds through the sectors with overwrite.
func TestRoundsWithOverwrite(t *testing.T) {
	const sectors = 4
	w := newWorld(t, deviceWith(t, nil, nil, nil, nil), true)
	var l []api.Event
	for i := range 30 {
		id := uint16(i + 1)
		q := i/k + 1
		place := 1 + (q-1)%sectors
		o := writes(place, small, i%k, sample(id))
		if i%k > 0 {
			w.add(t, fmt.Sprintf("record %d", id), fresh(id), id, o)
		} else {
			tail := max(1, q-sectors+2)
			w.add(t, fmt.Sprintf("record %d", id), fresh(id), id, with(opens(place, small, uint32(q), uint32(tail), id, q > sectors), o)...)
		}
		if l = append(l, sample(id)); len(l) > 9 {
			l = l[3:]
		}
		w.check(t, fmt.Sprintf("record %d", id), false, l...)
	}
	if wear := w.d.Wear(); !slices.Equal(wear, []int{0, 2, 2, 1, 1, 0}) {
		t.Errorf("the wear is %v", wear)
	}
}

// P9.4: two sectors hold the records of one.
func TestTwoSectors(t *testing.T) {
	w := newWorld(t, deviceWith(t, full(1, 1, 1), nil), true)
	w.add(t, "record 4", fresh(4), 4, with(opens(2, small, 2, 2, 4, false), writes(2, small, 0, sample(4)))...)
	w.check(t, "record 4", false, samples(4)...)
	w = newWorld(t, deviceWith(t, full(3, 3, 1), full(2, 2, 5)), true)
	w.add(t, "record 4", fresh(4), 4, with(opens(2, small, 4, 4, 4, true), writes(2, small, 0, sample(4)))...)
	w.check(t, "record 4", false, samples(4)...)
	w = newWorld(t, deviceWith(t, full(3, 3, 1), full(2, 2, 5)), false)
	w.nothing(t, "full", adding(fresh(4)), api.ErrFull)
}

// P9.4, P9.6: nothing is written to a full log without overwrite.
func TestFullLog(t *testing.T) {
	w := newWorld(t, deviceWith(t, full(5, 3, 7), full(2, 1, 20), full(3, 1, 1), full(4, 2, 4)), false)
	want := samples(1, 2, 3, 4, 5, 6, 7, 8, 9)
	w.check(t, "not refused yet", false, want...)
	w.nothing(t, "not valid", adding(api.Event{Type: 0x80}), api.ErrInvalid)
	w.check(t, "not valid", false, want...)
	for range 3 {
		w.nothing(t, "full", adding(fresh(10)), api.ErrFull)
		checkAdd(t, "full", w.g, fresh(10), 0, api.ErrFull)
		w.check(t, "full", true, want...)
	}
	w.nothing(t, "full, not valid", adding(sample(10)), api.ErrInvalid)
	w.check(t, "full, not valid", true, want...)
	w.nothing(t, "full, wrong reservation", clearing(9), api.ErrReservation)
	w.check(t, "full, wrong reservation", true, want...)
	w.clear(t, "cleared", opens(2, small, 6, 6, 10, true)...)
	w.check(t, "cleared", false)
	w.add(t, "record 10", fresh(10), 10, writes(2, small, 0, sample(10)))
	w.check(t, "record 10", false, samples(10)...)
}

// P9.4: ErrInvalid for events that are not valid, and for those with an ID; neither writes anything.
func TestEventsThatCannotBeAdded(t *testing.T) {
	bad := []api.Event{
		{ID: 1}, {ID: 65534}, {ID: 65535}, {Time: 1<<32 - 1}, {Type: 0x80}, {Type: 0xFF}, {ID: 3, Type: 0x80}, sample(4),
		{Time: 1<<32 - 1, Generator: 32, SensorType: 1, Sensor: 2, Type: 1},
	}
	good := []api.Event{
		{}, {Time: 1<<32 - 2}, {Type: 0x7F}, {Generator: 65535, SensorType: 255, Sensor: 255, Deassert: true, Data: [3]uint8{255, 255, 255}},
	}
	for name, x := range logs(t) {
		w := newWorld(t, x.d, true)
		for _, e := range bad {
			w.nothing(t, fmt.Sprintf("%s, %v", name, e), adding(e), api.ErrInvalid)
			checkAdd(t, name, w.g, e, 0, api.ErrInvalid)
		}
		w.check(t, name, false, x.records...)
		if name == "at limit" {
			continue
		}
		for _, e := range good {
			id, err := w.g.Add(e)
			e.ID = id
			if l := w.g.Records(); id == 0 || err != api.OK || l[len(l)-1] != e {
				t.Errorf("%s: Add returns %d, error %d, and the records are %v", name, id, err, l)
			}
		}
	}
}

// P9.4: the slot is that behind the last one that is not free, whatever lies in front of it; the next ID is that behind the last valid one.
func TestAddToSlotsInEveryPlace(t *testing.T) {
	triples(func(what string, l [k]slotKind) {
		d := deviceWith(t, full(1, 1, 20), sector(head(2, 1, 9), l[0].bytes, l[1].bytes, l[2].bytes), nil, nil)
		used, next := 0, uint16(9)
		for i, x := range l {
			if x.name != "free" {
				used = i + 1
			}
		}
		records := recordsIn(l)
		if n := len(records); n > 0 {
			next = records[n-1].ID%65534 + 1
		}
		old := d.Clone()
		g := open(t, d, 1, 4, false)
		checkAdd(t, what, g, fresh(next), next, api.OK)
		want := []operation{writes(2, small, used, sample(next))}
		if used == k {
			want = with(opens(3, small, 3, 1, next, false), writes(3, small, 0, sample(next)))
		}
		runAll(old, want)
		checkSame(t, what, d, old)
		checkLog(t, what, g, false, slices.Concat(samples(20, 21, 22), records, samples(next))...)
	})
}

// P9.3: a sector is erased unless all its bytes are FF hex, also those behind the slots.
func TestSectorThatIsNotErased(t *testing.T) {
	for at := range small {
		for _, x := range []byte{0xFE, 0x7F, 0x00} {
			what := fmt.Sprintf("byte %d is %02X", at, x)
			d := deviceWith(t, full(1, 1, 1), changed(bytesOf(0xFF, small), at, x), nil)
			old := d.Clone()
			g := open(t, d, 1, 3, false)
			checkAdd(t, what, g, fresh(4), 4, api.OK)
			runAll(old, with(opens(2, small, 2, 1, 4, true), writes(2, small, 0, sample(4))))
			checkSame(t, what, d, old)
			checkLog(t, what, g, false, samples(1, 2, 3, 4)...)
		}
	}
}

// P9.3: the first sector of an unused log is opened in the same way, whatever its bytes are.
func TestFirstSectorThatIsNotErased(t *testing.T) {
	for name, b := range map[string][]byte{
		"zeros": make([]byte, small), "one bit": changed(bytesOf(0xFF, small), 63, 0xFE), "not valid": sector(headWith(1, 1, 1, 0xFF), slot(sample(5))),
	} {
		for _, overwrite := range []bool{false, true} {
			w := newWorld(t, deviceWith(t, b, nil), overwrite)
			w.check(t, name, false)
			w.add(t, name, fresh(1), 1, with(opens(1, small, 1, 1, 1, true), writes(1, small, 0, sample(1)))...)
			w.check(t, name, false, samples(1)...)
		}
	}
}

// P9.4: which tail a new sector has; the newest sector of the first two logs has the sequence number 2, that of the others 6.
func TestTailOfNewSector(t *testing.T) {
	for _, x := range []struct {
		name      string
		l         [][]byte
		overwrite bool
		newest    uint32
		tail      uint32 // 0 if there is no room
		want      []api.Event
	}{
		{"tail kept", [][]byte{full(1, 1, 1), full(2, 1, 4), nil, nil}, true, 2, 1, samples(1, 2, 3, 4, 5, 6, 7)},
		{"tail kept without overwrite", [][]byte{full(1, 1, 1), full(2, 1, 4), nil, nil}, false, 2, 1, samples(1, 2, 3, 4, 5, 6, 7)},
		{"tail moved", [][]byte{full(5, 3, 4), full(6, 4, 4), full(3, 1, 8), full(4, 3, 1)}, true, 6, 5, samples(4, 5, 6, 4, 5, 6, 7)},
		{"no room", [][]byte{full(5, 3, 4), full(6, 4, 4), full(3, 1, 8), full(4, 3, 1)}, false, 6, 0, nil},
		{"cleared before", [][]byte{full(5, 3, 8), full(6, 6, 4), full(3, 1, 8), full(4, 3, 1)}, false, 6, 6, samples(4, 5, 6, 7)},
		{"cleared two sectors before", [][]byte{full(5, 5, 8), full(6, 5, 4), full(3, 1, 8), full(4, 3, 1)}, false, 6, 5, samples(8, 9, 10, 4, 5, 6, 7)},
		{"oldest sector is gone", [][]byte{full(5, 4, 8), full(6, 4, 4), nil, nil}, true, 6, 5, samples(8, 9, 10, 4, 5, 6, 7)},
		{"oldest sector is gone, no room", [][]byte{full(5, 4, 8), full(6, 4, 4), nil, nil}, false, 6, 0, nil},
		{"newest sector is alone", [][]byte{nil, full(6, 4, 4), nil, nil}, true, 6, 5, samples(4, 5, 6, 7)},
	} {
		w := newWorld(t, deviceWith(t, x.l...), x.overwrite)
		if x.tail == 0 {
			w.nothing(t, x.name, adding(fresh(7)), api.ErrFull)
			continue
		}
		place := x.newest % 4
		o := opens(int(place)+1, small, x.newest+1, x.tail, 7, x.l[place] != nil)
		w.add(t, x.name, fresh(7), 7, with(o, writes(int(place)+1, small, 0, sample(7)))...)
		w.check(t, x.name, false, x.want...)
	}
}

// P9.3, P9.4, R4: sequence numbers at MaxGeneration; a log that is also full is full.
func TestGreatestSequence(t *testing.T) {
	const most = 1 << 31
	// The sector of the greatest sequence number is the second one of three.
	w := newWorld(t, deviceWith(t, nil, sector(head(most, most, 9), slot(sample(9))), nil), false)
	w.add(t, "room in the last sector", fresh(10), 10, writes(2, small, 1, sample(10)))
	w.add(t, "room in the last sector", fresh(11), 11, writes(2, small, 2, sample(11)))
	for _, overwrite := range []bool{false, true} {
		w := newWorld(t, w.d.Clone(), overwrite)
		w.nothing(t, "no sector left", adding(fresh(12)), api.ErrLimit)
		checkAdd(t, "no sector left", w.g, fresh(12), 0, api.ErrLimit)
		w.nothing(t, "no sector left, not valid", adding(sample(12)), api.ErrInvalid)
		w.check(t, "no sector left", false, samples(9, 10, 11)...)
	}

	w = newWorld(t, deviceWith(t, full(most-1, most-1, 3), full(most, most-1, 6), nil), true)
	w.nothing(t, "overwriting", adding(fresh(9)), api.ErrLimit)
	w.check(t, "overwriting", false, samples(3, 4, 5, 6, 7, 8)...)
	w = newWorld(t, w.d, false)
	w.nothing(t, "full", adding(fresh(9)), api.ErrFull)
	w.check(t, "full", true, samples(3, 4, 5, 6, 7, 8)...)

	w = newWorld(t, deviceWith(t, full(most-1, most-1, 3), full(8, 8, 5), nil), false)
	w.add(t, "one below", fresh(6), 6, with(opens(2, small, most, most-1, 6, true), writes(2, small, 0, sample(6)))...)
	w.check(t, "one below", false, samples(3, 4, 5, 6)...)
}

// P9.4: which ID is the next one.
func TestNextID(t *testing.T) {
	bad := make([]byte, 17)
	for _, x := range []struct {
		name string
		l    [][]byte
		want uint16
	}{
		{"erased", [][]byte{nil, nil, nil}, 1},
		{"no valid header", [][]byte{sector(headWith(1, 1, 7, 0xFF), slot(sample(7))), nil, nil}, 1},
		{"newest is empty", [][]byte{full(1, 1, 1), head(2, 1, 77), nil}, 77},
		{"newest is empty, with the greatest ID", [][]byte{full(1, 1, 1), head(2, 1, 65534), nil}, 65534},
		{"newest is empty, with the least ID", [][]byte{full(1, 1, 9), head(2, 1, 1), nil}, 1},
		{"newest has only spoiled slots", [][]byte{full(1, 1, 1), sector(head(2, 1, 77), bad, bad), nil}, 77},
		{"newest has only spoiled slots and no room", [][]byte{full(1, 1, 1), sector(head(2, 1, 77), bad, bad, bad), nil}, 77},
		{"behind the last valid slot", [][]byte{full(1, 1, 1), sector(head(2, 1, 77), slot(sample(30)), slot(sample(20))), nil}, 21},
		{"last valid slot in front of a spoiled one", [][]byte{full(1, 1, 1), sector(head(2, 1, 77), slot(sample(30)), bad), nil}, 31},
		{"last valid slot behind a spoiled one", [][]byte{full(1, 1, 1), sector(head(2, 1, 77), bad, slot(sample(30))), nil}, 31},
		{"greatest ID", [][]byte{sector(head(1, 1, 77), slot(sample(65534))), nil, nil}, 1},
		{"below the greatest ID", [][]byte{sector(head(1, 1, 77), slot(sample(65533))), nil, nil}, 65534},
		{"greatest ID and no room", [][]byte{full(1, 1, 65532), nil, nil}, 1},
		{"greatest ID in an older sector", [][]byte{full(1, 1, 65532), head(2, 1, 3), nil}, 3},
		{"older sector lies behind", [][]byte{head(4, 3, 500), nil, full(3, 2, 8)}, 500},
	} {
		for _, overwrite := range []bool{false, true} {
			g := open(t, deviceWith(t, x.l...), 1, 3, overwrite)
			if id, err := g.Add(fresh(1)); id != x.want && err == api.OK || err != api.OK && err != api.ErrFull {
				t.Errorf("%s: the ID is %d, error %d, not %d", x.name, id, err, x.want)
			}
		}
		g := open(t, deviceWith(t, x.l...), 1, 3, true)
		checkAdd(t, x.name, g, fresh(1), x.want, api.OK)
		checkAdd(t, x.name, g, fresh(1), x.want%65534+1, api.OK)
	}
}

// P9.3: the first ID of a new sector goes round too.
func TestFirstIDOfNewSector(t *testing.T) {
	w := newWorld(t, deviceWith(t, full(1, 1, 65532), nil, nil), false)
	w.add(t, "behind the greatest ID", fresh(1), 1, with(opens(2, small, 2, 1, 1, false), writes(2, small, 0, sample(1)))...)
	w.check(t, "behind the greatest ID", false, samples(65532, 65533, 65534, 1)...)
	w = newWorld(t, deviceWith(t, full(1, 1, 65531), nil, nil), false)
	w.add(t, "the greatest ID", fresh(65534), 65534, with(opens(2, small, 2, 1, 65534, false), writes(2, small, 0, sample(65534)))...)
	w.add(t, "behind the greatest ID", fresh(1), 1, writes(2, small, 1, sample(1)))
	w.check(t, "behind the greatest ID", false, samples(65531, 65532, 65533, 65534, 1)...)
}

// P9.4: sectors of other sizes, and with the greatest number of slots.
func TestLargeSectors(t *testing.T) {
	const size, slots = 1024, 59
	d := newDevice(t, 4, size)
	w := &world{d, 1, 2, true, open(t, d, 1, 2, true)}
	var l []api.Event
	for i := range 2*slots + 2 {
		id := uint16(i + 1)
		old := d.Clone()
		q := i/slots + 1
		place := 2 - q%2
		want := []operation{writes(place, size, i%slots, sample(id))}
		if i%slots == 0 {
			want = with(opens(place, size, uint32(q), uint32(q), id, q > 2), want[0])
			l = nil
		}
		l = append(l, sample(id))
		checkAdd(t, "large", w.g, fresh(id), id, api.OK)
		runAll(old, want)
		checkSame(t, "large", d, old)
		w.check(t, "large", false, l...)
	}
}
