package eventlog_test

import (
	"fmt"
	"maps"
	"math"
	"slices"
	"testing"

	"baseboard/api"
	"baseboard/event"
	"baseboard/eventlog"
	"baseboard/flash"
)

// P9.2, R4: also with two errors at once.
func TestOpenErrors(t *testing.T) {
	up := newDevice(t, 4, small)
	down := up.Clone()
	takeDown(t, down)
	for _, x := range []struct {
		first, sectors int
		want           api.Errno
	}{
		{0, 2, api.OK}, {0, 3, api.OK}, {0, 4, api.OK}, {1, 2, api.OK}, {1, 3, api.OK}, {2, 2, api.OK},
		{0, 1, api.ErrRange}, {0, 0, api.ErrRange}, {0, -1, api.ErrRange}, {0, math.MinInt, api.ErrRange}, {3, 1, api.ErrRange},
		{-1, 2, api.ErrRange}, {-1, 4, api.ErrRange}, {-2, 2, api.ErrRange}, {math.MinInt, 2, api.ErrRange}, {math.MinInt, math.MaxInt, api.ErrRange},
		{0, 5, api.ErrRange}, {1, 4, api.ErrRange}, {2, 3, api.ErrRange}, {3, 2, api.ErrRange}, {4, 2, api.ErrRange}, {5, 2, api.ErrRange},
		{0, math.MaxInt, api.ErrRange}, {1, math.MaxInt, api.ErrRange}, {math.MaxInt, 2, api.ErrRange}, {math.MaxInt, 1, api.ErrRange},
		{math.MaxInt - 1, 2, api.ErrRange}, {math.MaxInt, math.MaxInt, api.ErrRange}, {-1, 1, api.ErrRange}, {math.MinInt, math.MinInt, api.ErrRange},
		{5, math.MinInt, api.ErrRange}, {4, 0, api.ErrRange}, {5, -1, api.ErrRange},
	} {
		for _, overwrite := range []bool{false, true} {
			checkOpen(t, up, x.first, x.sectors, overwrite, x.want)
			if x.want == api.OK {
				checkOpen(t, down, x.first, x.sectors, overwrite, api.ErrPower)
			} else {
				checkOpen(t, down, x.first, x.sectors, overwrite, x.want)
			}
		}
	}
	checkOpen(t, newDevice(t, 1, small), 0, 2, false, api.ErrRange)
	checkOpen(t, newDevice(t, 16, 1024), 0, 16, false, api.OK)
	checkOpen(t, newDevice(t, 16, 1024), 0, 17, false, api.ErrRange)
}

func checkOpen(t *testing.T, d *flash.Device, first, sectors int, overwrite bool, want api.Errno) {
	t.Helper()
	before := d.Clone()
	g, e := eventlog.Open(d, first, sectors, overwrite)
	if e != want || (g != nil) != (want == api.OK) {
		t.Errorf("Open at sector %d of %d sectors of %d, down is %t: %p, error %d, not %d", first, sectors, d.Sectors(), d.Down(), g, e, want)
	}
	checkSame(t, "Open", d, before)
}

// P9.2: a device that was down can be opened when it is restored.
func TestOpenAfterRestore(t *testing.T) {
	d := deviceWith(t, full(1, 1, 1), sector(head(2, 1, 4), slot(sample(4))), nil)
	takeDown(t, d)
	checkOpen(t, d, 1, 3, false, api.ErrPower)
	d.Restore()
	checkLog(t, "restored", open(t, d, 1, 3, false), false, samples(1, 2, 3, 4)...)
}

// logs are devices with a log of their inner sectors, and the records that it has.
func logs(t *testing.T) map[string]struct {
	d       *flash.Device
	records []api.Event
} {
	t.Helper()
	type log = struct {
		d       *flash.Device
		records []api.Event
	}
	return map[string]log{
		"erased":   {deviceWith(t, nil, nil, nil), nil},
		"first":    {deviceWith(t, sector(head(1, 1, 1), slot(sample(1))), nil, nil), samples(1)},
		"full":     {deviceWith(t, full(4, 3, 6), full(2, 1, 30), full(3, 2, 3)), samples(3, 4, 5, 6, 7, 8)},
		"spoiled":  {deviceWith(t, make([]byte, small), make([]byte, 5), sector(head(3, 3, 9), free(), make([]byte, 17), slot(sample(9)))), samples(9)},
		"at limit": {deviceWith(t, nil, sector(head(1<<31, 1<<31, 9), slot(sample(9)), slot(sample(10)), slot(sample(11))), nil), samples(9, 10, 11)},
	}
}

// P9.2: Open, Records, Len, Full, Get and Reserve write nothing and work on a device that is armed; those that need no device also work on one that is down.
func TestReadingWritesNothing(t *testing.T) {
	for name, x := range logs(t) {
		for _, overwrite := range []bool{false, true} {
			x.d.Arm(1, 0)
			before := x.d.Clone()
			g := open(t, x.d, 1, 3, overwrite)
			checkLog(t, name, g, false, x.records...)
			if n := g.Reserve(); n != 1 {
				t.Errorf("%s: the first reservation is %d", name, n)
			}
			checkSame(t, name, x.d, before)
			if n := stepsLeft(x.d, 5); n != 1 {
				t.Errorf("%s: the power fails at step %d", name, n)
			}
			takeDown(t, x.d)
			before = x.d.Clone()
			checkLog(t, name+", down", g, false, x.records...)
			if n := g.Reserve(); n != 2 {
				t.Errorf("%s, down: the second reservation is %d", name, n)
			}
			checkSame(t, name+", down", x.d, before)
			x.d.Restore()
		}
	}
}

// Consequences: opening again leads to the same records, also with another overwrite.
func TestOpenTwice(t *testing.T) {
	for name, x := range logs(t) {
		for i := range 4 {
			checkLog(t, fmt.Sprintf("%s, opened %d times", name, i+1), open(t, x.d, 1, 3, i%2 == 0), false, x.records...)
		}
	}
}

// The format: each condition of a header broken alone; the header is that of the second of four sectors, and in front of it lies a record 3.
func TestHeaderConditions(t *testing.T) {
	const most = 1 << 31
	for _, x := range []struct {
		name           string
		sequence, tail uint32
		firstID        uint16
		status         byte
		want           []api.Event
	}{
		{"valid", 6, 5, 9, 0, samples(3, 9)},
		{"tail is sequence", 6, 6, 9, 0, samples(9)},
		{"least tail", 6, 4, 9, 0, samples(3, 9)},
		{"tail too low", 6, 3, 9, 0, samples(3)},
		{"tail too high", 6, 7, 9, 0, samples(3)},
		{"tail much too high", 6, 1<<32 - 1, 9, 0, samples(3)},
		{"tail 0", 6, 0, 9, 0, samples(3)},
		{"low sequence, tail 0", 2, 0, 9, 0, samples(3)},
		{"low sequence", 2, 2, 9, 0, samples(3)},
		{"one lower", 5, 5, 9, 0, samples(3)},
		{"one higher", 7, 6, 9, 0, samples(3)},
		{"sequence 0", 0, 0, 9, 0, samples(3)},
		{"sequence 0 with a tail", 0, 1, 9, 0, samples(3)},
		{"next round", 10, 8, 9, 0, samples(9)},
		{"before the limit", most - 2, most - 4, 9, 0, samples(9)},
		{"above the limit", most + 2, most, 9, 0, samples(3)},
		{"far above the limit", 1<<32 - 2, 1<<32 - 3, 9, 0, samples(3)},
		{"ID 0", 6, 5, 0, 0, samples(3)},
		{"ID 1", 6, 5, 1, 0, samples(3, 9)},
		{"ID 65534", 6, 5, 65534, 0, samples(3, 9)},
		{"ID 65535", 6, 5, 65535, 0, samples(3)},
		{"status FF", 6, 5, 9, 0xFF, samples(3)},
		{"status 01", 6, 5, 9, 0x01, samples(3)},
		{"status 80", 6, 5, 9, 0x80, samples(3)},
		{"status FE", 6, 5, 9, 0xFE, samples(3)},
		{"status 7F", 6, 5, 9, 0x7F, samples(3)},
	} {
		d := deviceWith(t, sector(head(5, 5, 3), slot(sample(3))), sector(headWith(x.sequence, x.tail, x.firstID, x.status), slot(sample(9))), nil, nil)
		checkLog(t, x.name, open(t, d, 1, 4, false), false, x.want...)
	}
}

// The format: sequence numbers at MaxGeneration and above it, and those near 0, in each sector in which the rest of a division could put them.
func TestSequencesAtLimits(t *testing.T) {
	const most = 1 << 31
	for sectors := 2; sectors <= 7; sectors++ {
		for _, sequence := range []uint32{0, 1, 2, 3, most - 2, most - 1, most, most + 1, most + 2, 1<<32 - 2, 1<<32 - 1} {
			for j := range sectors {
				l := make([][]byte, sectors)
				l[j] = sector(head(sequence, sequence, 7), slot(sample(7)))
				var want []api.Event
				if sequence >= 1 && sequence <= most && (int64(sequence)-1)%int64(sectors) == int64(j) {
					want = samples(7)
				}
				what := fmt.Sprintf("sequence number %d in sector %d of %d", sequence, j, sectors)
				checkLog(t, what, open(t, deviceWith(t, l...), 1, sectors, false), false, want...)
			}
		}
	}
}

// The format: all small sequence numbers and tails in each sector.
func TestAllSmallHeaders(t *testing.T) {
	for sectors := 2; sectors <= 5; sectors++ {
		for j := range sectors {
			for sequence := range 3*sectors + 2 {
				for tail := range sequence + 3 {
					l := make([][]byte, sectors)
					l[j] = sector(head(uint32(sequence), uint32(tail), 7), slot(sample(7)))
					var want []api.Event
					if place := sequence - 1; place >= 0 && place%sectors == j && 1 <= tail && tail <= sequence && sequence-tail <= sectors-2 {
						want = samples(7)
					}
					what := fmt.Sprintf("sequence number %d, tail %d in sector %d of %d", sequence, tail, j, sectors)
					checkLog(t, what, open(t, deviceWith(t, l...), 1, sectors, false), false, want...)
				}
			}
		}
	}
}

// The format: the tail is that of the newest sector; the records are in the order of the sequence numbers, wherever the sectors lie.
func TestRecordsOfSeveralSectors(t *testing.T) {
	for _, x := range []struct {
		name string
		l    [][]byte
		want []api.Event
	}{
		{"in order", [][]byte{full(1, 1, 1), full(2, 1, 4), full(3, 1, 7), nil}, samples(1, 2, 3, 4, 5, 6, 7, 8, 9)},
		{"turned by one", [][]byte{full(5, 3, 7), nil, full(3, 1, 1), full(4, 2, 4)}, samples(1, 2, 3, 4, 5, 6, 7, 8, 9)},
		{"turned by two", [][]byte{full(5, 3, 4), full(6, 4, 7), full(3, 1, 20), full(4, 2, 1)}, samples(1, 2, 3, 4, 5, 6, 7, 8, 9)},
		{"turned by three", [][]byte{full(5, 3, 1), full(6, 4, 4), full(7, 5, 7), full(4, 2, 20)}, samples(1, 2, 3, 4, 5, 6, 7, 8, 9)},
		{"newest has a high tail", [][]byte{full(5, 3, 4), full(6, 6, 7), full(3, 1, 20), full(4, 2, 1)}, samples(7, 8, 9)},
		{"newest has a tail below that", [][]byte{full(5, 3, 4), full(6, 5, 7), full(3, 1, 20), full(4, 2, 1)}, samples(4, 5, 6, 7, 8, 9)},
		{"older one has a higher tail", [][]byte{full(5, 5, 4), full(6, 4, 7), full(3, 1, 20), full(4, 2, 1)}, samples(1, 2, 3, 4, 5, 6, 7, 8, 9)},
		{"a gap", [][]byte{full(5, 3, 4), full(6, 4, 7), nil, sector(headWith(4, 2, 1, 0xFF), slot(sample(1)))}, samples(4, 5, 6, 7, 8, 9)},
		{"a sector of long ago", [][]byte{full(1, 1, 4), full(6, 4, 7), full(3, 1, 20), full(4, 4, 1)}, samples(1, 2, 3, 7, 8, 9)},
		{"newest far ahead", [][]byte{full(5, 3, 4), full(6, 4, 7), full(103, 102, 20), full(4, 2, 1)}, samples(20, 21, 22)},
		{"newest is empty", [][]byte{full(1, 1, 1), full(2, 1, 4), head(3, 1, 7), nil}, samples(1, 2, 3, 4, 5, 6)},
		{"newest is empty, cleared", [][]byte{full(1, 1, 1), full(2, 1, 4), head(3, 3, 7), nil}, nil},
		{"IDs as they are", [][]byte{full(1, 1, 8), full(2, 1, 3), full(3, 1, 8), nil}, samples(8, 9, 10, 3, 4, 5, 8, 9, 10)},
		{"IDs behind the greatest one", [][]byte{full(1, 1, 65532), sector(head(2, 1, 9), slot(sample(1)), slot(sample(2))), nil, nil}, samples(65532, 65533, 65534, 1, 2)},
	} {
		checkLog(t, x.name, open(t, deviceWith(t, x.l...), 1, 4, true), false, x.want...)
	}
}

// The format: sectors j of the log are the device's sectors first + j.
func TestLogsOfOneDevice(t *testing.T) {
	d := newDevice(t, 7, small)
	program(t, d, 0, full(1, 1, 1)...)
	program(t, d, small, full(2, 2, 4)...)
	program(t, d, 2*small, full(1, 1, 10)...)
	program(t, d, 3*small, full(2, 1, 13)...)
	program(t, d, 4*small, full(3, 2, 16)...)
	program(t, d, 5*small, full(3, 3, 20)...)
	program(t, d, 6*small, full(4, 4, 23)...)
	for i, x := range []struct {
		first, sectors int
		want           []api.Event
	}{
		{0, 2, samples(4, 5, 6)},
		{2, 3, samples(13, 14, 15, 16, 17, 18)},
		{5, 2, samples(23, 24, 25)},
		{1, 3, nil},
		{0, 7, samples(4, 5, 6)},
		{4, 2, nil},
	} {
		checkLog(t, fmt.Sprintf("log %d", i), open(t, d, x.first, x.sectors, false), false, x.want...)
	}
}

// slotKind is a slot, and what the format says of it.
type slotKind struct {
	name  string
	bytes []byte
	valid bool
}

func slotKinds() []slotKind {
	l := []slotKind{{"free", free(), false}, {"valid", slot(sample(5)), true}, {"greatest ID", slot(sample(65534)), true}}
	all := spoiled()
	for _, name := range slices.Sorted(maps.Keys(all)) {
		l = append(l, slotKind{name, all[name], false})
	}
	return l
}

// triples calls f for all slots in all three places of a sector.
func triples(f func(what string, l [k]slotKind)) {
	kinds := slotKinds()
	for _, a := range kinds {
		for _, b := range kinds {
			for _, c := range kinds {
				f(a.name+", "+b.name+", "+c.name, [k]slotKind{a, b, c})
			}
		}
	}
}

// recordsIn returns the records of a sector's slots.
func recordsIn(l [k]slotKind) []api.Event {
	var records []api.Event
	for _, x := range l {
		if x.valid {
			e, _ := event.Decode(x.bytes[:16])
			records = append(records, e)
		}
	}
	return records
}

// The format: free, valid and spoiled slots in every place of the newest sector and of an older one.
func TestSlotsInEveryPlace(t *testing.T) {
	triples(func(what string, l [k]slotKind) {
		d := deviceWith(t, sector(head(1, 1, 9), l[0].bytes, l[1].bytes, l[2].bytes), full(2, 1, 20), nil)
		checkLog(t, what+", older", open(t, d, 1, 3, false), false, append(recordsIn(l), samples(20, 21, 22)...)...)
		d = deviceWith(t, full(1, 1, 20), sector(head(2, 1, 9), l[0].bytes, l[1].bytes, l[2].bytes), nil)
		checkLog(t, what+", newest", open(t, d, 1, 3, false), false, append(samples(20, 21, 22), recordsIn(l)...)...)
	})
}

// The format: slots fill a sector as far as whole ones fit, and the bytes behind them say nothing.
func TestNumberOfSlots(t *testing.T) {
	for _, size := range []int{64, 78, 79, 80, 95, 96, 97, 1023, 1024} {
		d := newDevice(t, 2, size)
		slots := (size - 11) / 17
		b := head(1, 1, 1)
		var want []api.Event
		for id := range uint16(slots) {
			b = append(b, slot(sample(id+1))...)
			want = append(want, sample(id+1))
		}
		program(t, d, 0, append(b, make([]byte, size-len(b))...)...)
		checkLog(t, fmt.Sprintf("sectors of %d bytes", size), open(t, d, 0, 2, false), false, want...)
	}
}

// The format: one wrong byte in a valid header or in a valid slot, each bit of it alone.
func TestBitsOfHeaderAndSlot(t *testing.T) {
	const sectors = 2
	good := sector(head(1, 1, 0x1234), slot(sample(0x0305)))
	for i := range good {
		for bit := range 8 {
			b := slices.Clone(good)
			b[i] ^= 1 << bit
			what := fmt.Sprintf("byte %d, bit %d", i, bit)
			m := modelOf([][]byte{append(b, bytesOf(0xFF, small-len(b))...), bytesOf(0xFF, small)})
			if i < 11 && i != 8 && i != 9 && len(m.records) > 0 {
				t.Fatalf("%s: the model is wrong", what)
			}
			checkLog(t, what, open(t, deviceWith(t, b, nil), 1, sectors, false), false, m.records...)
		}
	}
}

// R1: sectors with all sorts of bytes.
func TestStrangeSectors(t *testing.T) {
	for x := range 256 {
		b := bytesOf(byte(x), small)
		for i, l := range [][][]byte{{b, b}, {b, full(2, 2, 5)}, {full(1, 1, 5), b}, {full(1, 1, 5), b, b}, {b, b, full(3, 2, 5), b}} {
			want := samples(5, 6, 7)
			if i == 0 {
				want = nil
			}
			checkLog(t, fmt.Sprintf("bytes %02X, log %d", x, i), open(t, deviceWith(t, l...), 1, len(l), false), false, want...)
		}
	}
}
