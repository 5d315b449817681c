package repository_test

import (
	"bytes"
	"fmt"
	"math"
	"testing"

	"baseboard/api"
	"baseboard/repository"
)

// known returns a repository with the records 2, 3, 5 and 6.
func known(t *testing.T) *repository.Repository {
	t.Helper()
	r := newRepository(t, 100)
	for id := uint16(1); id <= 6; id++ {
		checkAdd(t, "known", r, bytes.Repeat([]byte{byte(id)}, int(id)), id, api.OK)
	}
	remove(t, "known", r, 1)
	remove(t, "known", r, 4)
	return r
}

// P11.4: written down by hand.
func TestGetOfKnownRecords(t *testing.T) {
	r := known(t)
	for range 2 {
		checkGet(t, "the first one", r, 0, []byte{2, 2}, 3, api.OK)
		checkGet(t, "known", r, 2, []byte{2, 2}, 3, api.OK)
		checkGet(t, "known", r, 3, []byte{3, 3, 3}, 5, api.OK)
		checkGet(t, "known", r, 5, []byte{5, 5, 5, 5, 5}, 6, api.OK)
		checkGet(t, "known", r, 6, []byte{6, 6, 6, 6, 6, 6}, 0, api.OK)
	}
	for id := range 65536 {
		if id != 0 && id != 2 && id != 3 && id != 5 && id != 6 {
			checkGet(t, "known", r, uint16(id), nil, 0, api.ErrMissing)
		}
	}
}

// P11.4: next is 0 behind the last record, which another one can become.
func TestNext(t *testing.T) {
	r := newRepository(t, 100)
	addShort(t, r, 1)
	checkGet(t, "one", r, 1, short(1).b, 0, api.OK)
	checkGet(t, "one", r, 0, short(1).b, 0, api.OK)
	addShort(t, r, 2)
	checkGet(t, "two", r, 1, short(1).b, 2, api.OK)
	checkGet(t, "two", r, 0, short(1).b, 2, api.OK)
	checkGet(t, "two", r, 2, short(2).b, 0, api.OK)
	addShort(t, r, 3)
	remove(t, "three", r, 2)
	checkGet(t, "two again", r, 1, short(1).b, 3, api.OK)
	remove(t, "two again", r, 3)
	checkGet(t, "one again", r, 1, short(1).b, 0, api.OK)
}

// P11.4, P11.5: a repository without records, new, cleared, and with all records deleted.
func TestEmptyRepository(t *testing.T) {
	cleared, deleted := withShorts(t, 2), withShorts(t, 2)
	checkErrno(t, "cleared", cleared.Clear(cleared.Reserve()), api.OK)
	remove(t, "deleted", deleted, 1)
	remove(t, "deleted", deleted, 2)
	for name, r := range map[string]*repository.Repository{"new": newRepository(t, most), "cleared": cleared, "deleted": deleted} {
		n := r.Reserve()
		for _, id := range []uint16{0, 1, 2, 3, 65534, 65535} {
			checkGet(t, name, r, id, nil, 0, api.ErrMissing)
			for _, offset := range []int{0, 1, -1} {
				checkRead(t, name, r, n, id, offset, 0, nil, 0, api.ErrMissing)
			}
			checkRead(t, name, r, n+1, id, 0, 0, nil, 0, api.ErrMissing)
			checkRead(t, name, r, n+1, id, 1, 0, nil, 0, api.ErrReservation)
		}
		checkRecords(t, name, r, most)
		checkValid(t, name, r, int(n))
	}
}

// P11.5: written down by hand.
func TestReadOfKnownRecords(t *testing.T) {
	r := newRepository(t, 20)
	checkAdd(t, "first", r, []byte("abcdef"), 1, api.OK)
	checkAdd(t, "second", r, []byte("xyz"), 2, api.OK)
	checkReserve(t, "known", r, 1)
	for _, x := range []struct {
		reservation, id uint16
		offset, count   int
		want            string
		next            uint16
		e               api.Errno
	}{
		{1, 1, 0, 6, "abcdef", 2, api.OK},
		{1, 0, 0, 6, "abcdef", 2, api.OK},
		{1, 1, 2, 3, "cde", 2, api.OK},
		{1, 0, 2, 3, "cde", 2, api.OK},
		{1, 1, 5, 1, "f", 2, api.OK},
		{1, 1, 5, 0, "", 2, api.OK},
		{1, 1, 6, 0, "", 2, api.OK},
		{1, 1, 0, 0, "", 2, api.OK},
		{1, 2, 1, 2, "yz", 0, api.OK},
		{1, 2, 3, 0, "", 0, api.OK},
		{0, 1, 0, 6, "abcdef", 2, api.OK},
		{9, 2, 0, 2, "xy", 0, api.OK},
		{1, 1, 0, 7, "", 0, api.ErrRange},
		{0, 1, 0, 7, "", 0, api.ErrRange},
		{1, 1, 1, 6, "", 0, api.ErrRange},
		{1, 1, 6, 1, "", 0, api.ErrRange},
		{1, 1, 7, 0, "", 0, api.ErrRange},
		{1, 2, 2, 2, "", 0, api.ErrRange},
		{1, 1, -1, 1, "", 0, api.ErrRange},
		{1, 1, -1, 7, "", 0, api.ErrRange},
		{1, 1, 0, -1, "", 0, api.ErrRange},
		{1, 1, 6, -1, "", 0, api.ErrRange},
		{1, 1, 7, -1, "", 0, api.ErrRange},
		{0, 1, 1, 1, "", 0, api.ErrReservation},
		{2, 1, 1, 1, "", 0, api.ErrReservation},
		{65535, 1, 1, 1, "", 0, api.ErrReservation},
		{2, 1, -1, 1, "", 0, api.ErrReservation},
		{2, 1, 7, 1, "", 0, api.ErrReservation},
		{2, 3, 1, 1, "", 0, api.ErrReservation},
		{2, 3, 0, 1, "", 0, api.ErrMissing},
		{1, 3, 1, 1, "", 0, api.ErrMissing},
		{1, 3, -1, -1, "", 0, api.ErrMissing},
		{1, 3, 0, -1, "", 0, api.ErrMissing},
		{1, 65535, 0, 1, "", 0, api.ErrMissing},
	} {
		checkRead(t, "known", r, x.reservation, x.id, x.offset, x.count, []byte(x.want), x.next, x.e)
	}
}

// bounds are numbers beside the bounds of a record of n bytes, and far away from them.
func bounds(n int) []int {
	l := []int{math.MinInt, math.MinInt + 1, math.MinInt + n, -1 << 32, 1 << 16, 1 << 32, math.MaxInt - n, math.MaxInt - 1, math.MaxInt}
	for i := -3; i <= n+3; i++ {
		l = append(l, i)
	}
	return append(l, 255, 256, 256+n, -n, -n-1)
}

// P11.5: offset and count at, below and above each bound, with the valid reservation and with others.
func TestReadAtBounds(t *testing.T) {
	for _, n := range []int{1, 2, 7, api.MaxRecord} {
		r := newRepository(t, most)
		record := sample(5, n)
		checkAdd(t, "bounds", r, record, 1, api.OK)
		checkAdd(t, "bounds", r, []byte{1, 2, 3}, 2, api.OK)
		checkReserve(t, "bounds", r, 1)
		for _, offset := range bounds(n) {
			for _, count := range bounds(n) {
				var want []byte
				next, e := uint16(0), api.ErrRange
				// Each of both is compared alone before they are added.
				if offset >= 0 && offset <= n && count >= 0 && count <= n && offset+count <= n {
					want, next, e = record[offset:offset+count], 2, api.OK
				}
				for _, id := range []uint16{0, 1} {
					checkRead(t, "valid", r, 1, id, offset, count, want, next, e)
				}
				if offset != 0 {
					want, next, e = nil, 0, api.ErrReservation
				}
				checkRead(t, "not valid", r, 2, 1, offset, count, want, next, e)
				checkRead(t, "none", r, 0, 0, offset, count, want, next, e)
			}
		}
		checkValid(t, "bounds", r, 1)
	}
}

// P11.5, R4: each offset and count with an ID that is not there.
func TestReadOfMissingRecords(t *testing.T) {
	r := withShorts(t, 3)
	remove(t, "two", r, 2)
	n := r.Reserve()
	for _, id := range []uint16{2, 4, 65534, 65535} {
		for _, offset := range bounds(5) {
			for _, count := range bounds(5) {
				checkRead(t, "missing", r, n, id, offset, count, nil, 0, api.ErrMissing)
				want := api.ErrReservation
				if offset == 0 {
					want = api.ErrMissing
				}
				checkRead(t, "missing", r, n-1, id, offset, count, nil, 0, want)
			}
		}
	}
}

// P11.5: next is that of Get, and 0 stands for the first record, also where it was not the first one before.
func TestReadOfFirstRecord(t *testing.T) {
	r := withShorts(t, 5)
	for id := uint16(1); id <= 5; id++ {
		next := id%5 + 1
		if id == 5 {
			next = 0
		}
		n := r.Reserve()
		b := short(id).b
		checkRead(t, "first", r, n, 0, 0, len(b), b, next, api.OK)
		checkRead(t, "first", r, n, 0, 1, len(b)-1, b[1:], next, api.OK)
		checkRead(t, "first", r, n, id, 1, len(b)-1, b[1:], next, api.OK)
		checkRead(t, "first", r, n, id, 1, len(b), nil, 0, api.ErrRange)
		checkErrno(t, "first", r.Delete(n, id), api.OK)
		checkRead(t, "first", r, n, id, 0, 1, nil, 0, api.ErrMissing)
	}
}

// P11.5: with offset 0 no reservation is needed, whether there is one or not.
func TestReadWithoutReservation(t *testing.T) {
	never, one, past := withShorts(t, 3), withShorts(t, 3), withShorts(t, 2)
	checkReserve(t, "one", one, 1)
	checkReserve(t, "not any more", past, 1)
	addShort(t, past, 3)
	for _, x := range []struct {
		name  string
		r     *repository.Repository
		valid int
	}{{"never one", never, none}, {"one", one, 1}, {"not any more", past, none}} {
		checkValid(t, x.name, x.r, x.valid)
		for _, n := range []uint16{0, 1, 2, 65535} {
			what := fmt.Sprintf("%s, with %d", x.name, n)
			b := short(3).b
			checkRead(t, what, x.r, n, 3, 0, 0, nil, 0, api.OK)
			checkRead(t, what, x.r, n, 3, 0, len(b), b, 0, api.OK)
			checkRead(t, what, x.r, n, 3, 0, len(b)+1, nil, 0, api.ErrRange)
			if int(n) != x.valid {
				checkRead(t, what, x.r, n, 3, 1, 0, nil, 0, api.ErrReservation)
				checkRead(t, what, x.r, n, 3, -1, 0, nil, 0, api.ErrReservation)
			}
		}
	}
}

// The chapter's example.
func TestExample(t *testing.T) {
	r := newRepository(t, most)
	checkAdd(t, "first", r, []byte{10, 11, 12}, 1, api.OK)
	checkReserve(t, "first", r, 1)
	checkRead(t, "first", r, 1, 1, 1, 1, []byte{11}, 0, api.OK)
	checkAdd(t, "second", r, []byte{20}, 2, api.OK)
	checkRead(t, "second", r, 1, 1, 1, 1, nil, 0, api.ErrReservation)
	checkRead(t, "second", r, 1, 1, 0, 1, []byte{10}, 2, api.OK)
}
