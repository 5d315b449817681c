package eventlog_test

import (
	"fmt"
	"math"
	"testing"

	"baseboard/api"
	"baseboard/eventlog"
)

func checkCapacity(t *testing.T, sectors, size, records, dropped int, want api.Errno) {
	t.Helper()
	if r, d, e := eventlog.Capacity(sectors, size); r != records || d != dropped || e != want {
		t.Errorf("%d sectors of %d bytes: %d, %d, error %d, not %d, %d, %d", sectors, size, r, d, e, records, dropped, want)
	}
}

// P9.1, Examples 1
func TestKnownCapacities(t *testing.T) {
	for _, x := range []struct{ sectors, size, records, dropped int }{
		{4, 64, 9, 3}, {2, 64, 3, 3}, {3, 78, 6, 3}, {3, 79, 8, 4}, {3, 80, 8, 4},
		{2, 95, 4, 4}, {2, 96, 5, 5}, {2, 1024, 59, 59}, {16, 64, 45, 3}, {16, 1024, 885, 59}, {5, 512, 116, 29},
	} {
		checkCapacity(t, x.sectors, x.size, x.records, x.dropped, api.OK)
	}
}

// P9.1: all numbers around the limits.
func TestAllCapacities(t *testing.T) {
	for sectors := -2; sectors <= 20; sectors++ {
		for size := -2; size <= 1100; size++ {
			if sectors < 2 || sectors > 16 || size < 64 || size > 1024 {
				checkCapacity(t, sectors, size, 0, 0, api.ErrRange)
				continue
			}
			slots := 0
			for 11+17*(slots+1) <= size {
				slots++
			}
			checkCapacity(t, sectors, size, slots*sectors-slots, slots, api.OK)
		}
	}
}

// P9.1, R1
func TestCapacityOfStrangeNumbers(t *testing.T) {
	strange := []int{math.MinInt, math.MinInt + 1, -65, -1, 0, 1, 1025, 1 << 31, 1 << 32, 1<<32 + 64, math.MaxInt}
	for _, n := range strange {
		checkCapacity(t, n, 64, 0, 0, api.ErrRange)
		checkCapacity(t, 4, n, 0, 0, api.ErrRange)
		for _, m := range strange {
			checkCapacity(t, n, m, 0, 0, api.ErrRange)
		}
	}
	checkCapacity(t, 1<<32+4, 64, 0, 0, api.ErrRange)
	checkCapacity(t, 17, 64, 0, 0, api.ErrRange)
	checkCapacity(t, 4, 63, 0, 0, api.ErrRange)
}

// Consequences: up to Capacity records nothing is refused or dropped; the next one is refused, or displaces so many.
func TestCapacityIsReached(t *testing.T) {
	for sectors := 2; sectors <= 16; sectors++ {
		for _, size := range []int{64, 78, 79, 95, 96, 128, 300, 1024} {
			records, dropped, _ := eventlog.Capacity(sectors, size)
			what := fmt.Sprintf("%d sectors of %d bytes", sectors, size)
			refusing := open(t, newDevice(t, sectors, size), 0, sectors, false)
			dropping := open(t, newDevice(t, sectors, size), 0, sectors, true)
			for i := range records {
				checkAdd(t, what, refusing, fresh(uint16(i+1)), uint16(i+1), api.OK)
				checkAdd(t, what, dropping, fresh(uint16(i+1)), uint16(i+1), api.OK)
				if refusing.Len() != i+1 || dropping.Len() != i+1 || refusing.Full() {
					t.Fatalf("%s: %d and %d records after %d, Full is %t", what, refusing.Len(), dropping.Len(), i+1, refusing.Full())
				}
			}
			checkAdd(t, what, refusing, fresh(1), 0, api.ErrFull)
			checkAdd(t, what, dropping, fresh(1), uint16(records+1), api.OK)
			if n := refusing.Len(); n != records || !refusing.Full() {
				t.Errorf("%s: %d records when it is full, Full is %t", what, n, refusing.Full())
			}
			if n := dropping.Len(); n != records+1-dropped || dropping.Full() {
				t.Errorf("%s: %d records when it overwrote, Full is %t", what, n, dropping.Full())
			}
		}
	}
}
