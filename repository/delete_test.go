package repository_test

import (
	"fmt"
	"slices"
	"testing"

	"baseboard/api"
)

// P11.6, P11.7: each record of a few, and each one behind it.
func TestDelete(t *testing.T) {
	const n = 6
	for first := uint16(1); first <= n; first++ {
		for second := uint16(1); second <= n; second++ {
			what := fmt.Sprintf("without %d and %d", first, second)
			r := withShorts(t, n)
			want := shorts(1, 2, 3, 4, 5, 6)
			remove(t, what, r, first)
			want = slices.DeleteFunc(want, func(x rec) bool { return x.id == first })
			checkRecords(t, what, r, most, want...)
			if second == first {
				checkErrno(t, what, r.Delete(r.Reserve(), second), api.ErrMissing)
				checkRecords(t, what, r, most, want...)
				continue
			}
			remove(t, what, r, second)
			want = slices.DeleteFunc(want, func(x rec) bool { return x.id == second })
			checkRecords(t, what, r, most, want...)
			addShort(t, r, n+1)
			checkRecords(t, what, r, most, append(want, short(n+1))...)
		}
	}
}

// P11.6: 0 and other IDs that no record has.
func TestDeleteOfMissingRecords(t *testing.T) {
	r := known(t)
	n := r.Reserve()
	for id := range 65536 {
		if id != 2 && id != 3 && id != 5 && id != 6 {
			checkErrno(t, fmt.Sprintf("Delete of %d", id), r.Delete(n, uint16(id)), api.ErrMissing)
		}
	}
	if l := r.IDs(); !slices.Equal(l, []uint16{2, 3, 5, 6}) {
		t.Errorf("the IDs are %v", l)
	}
	checkErrno(t, "Delete of 5", r.Delete(n, 5), api.OK)
	if l := r.IDs(); !slices.Equal(l, []uint16{2, 3, 6}) {
		t.Errorf("the IDs are %v", l)
	}
}

// P11.6, R4: reservations that are 0, that were never given, that are old and that are not valid any more, with IDs that are there and with others.
func TestDeleteAndClearWithOtherReservations(t *testing.T) {
	r := withShorts(t, 3)
	refused := func(what string, reservations ...uint16) {
		t.Helper()
		for _, n := range reservations {
			for _, id := range []uint16{0, 1, 2, 3, 4, 65535} {
				checkErrno(t, fmt.Sprintf("%s: Delete of %d with %d", what, id, n), r.Delete(n, id), api.ErrReservation)
			}
			checkErrno(t, fmt.Sprintf("%s: Clear with %d", what, n), r.Clear(n), api.ErrReservation)
		}
	}
	refused("never one", 0, 1, 2, 65535)
	checkRecords(t, "never one", r, most, shorts(1, 2, 3)...)
	checkReserve(t, "first", r, 1)
	checkReserve(t, "second", r, 2)
	refused("two", 0, 1, 3, 65535)
	checkRecords(t, "two", r, most, shorts(1, 2, 3)...)
	checkErrno(t, "two", r.Delete(2, 1), api.OK)
	refused("used for Delete", 0, 1, 2, 3)
	checkReserve(t, "third", r, 3)
	addShort(t, r, 4)
	refused("with an Add behind it", 0, 1, 2, 3, 4)
	checkReserve(t, "fourth", r, 4)
	refused("four", 0, 3, 5)
	checkErrno(t, "four", r.Clear(4), api.OK)
	refused("used for Clear", 0, 3, 4, 5)
	addShort(t, r, 5)
	refused("cleared", 0, 3, 4, 5)
	checkRecords(t, "cleared", r, most, short(5))
}

// P11.6: Clear removes all records, and the next IDs go on.
func TestClear(t *testing.T) {
	for _, n := range []int{0, 1, 2, 63, 64} {
		what := fmt.Sprintf("%d records", n)
		r := withShorts(t, n)
		checkReserve(t, what, r, 1)
		checkErrno(t, what, r.Clear(1), api.OK)
		checkRecords(t, what, r, most)
		checkValid(t, what, r, none)
		for id := range uint16(n + 5) {
			checkGet(t, what, r, id, nil, 0, api.ErrMissing)
		}
		addShort(t, r, uint16(n+1))
		checkRecords(t, what, r, most, short(uint16(n+1)))
		checkReserve(t, what, r, 2)
		checkErrno(t, what, r.Clear(2), api.OK)
		addShort(t, r, uint16(n+2))
		checkRecords(t, what, r, most, short(uint16(n+2)))
	}
}

// P11.6: after a Clear all IDs are free again.
func TestClearFreesIDs(t *testing.T) {
	r := withShorts(t, 3)
	turn(t, r, 65534)
	checkErrno(t, "Clear", r.Clear(r.Reserve()), api.OK)
	addShort(t, r, 1)
	addShort(t, r, 2)
	checkRecords(t, "cleared", r, most, shorts(1, 2)...)
}

// P11.7: the order is that of the calls of Add, not that of the IDs.
func TestOrderOfIDs(t *testing.T) {
	r := newRepository(t, most)
	turn(t, r, 65531)
	var want []rec
	for _, id := range []uint16{65532, 65533, 65534, 1, 2} {
		addShort(t, r, id)
		want = append(want, short(id))
		checkRecords(t, "in order", r, most, want...)
	}
	remove(t, "in order", r, 65533)
	checkRecords(t, "in order", r, most, shorts(65532, 65534, 1, 2)...)
	remove(t, "in order", r, 65532)
	checkRecords(t, "in order", r, most, shorts(65534, 1, 2)...)
}

// P11.1, P11.6: Free is what it was before a record was added.
func TestDeleteMakesRoom(t *testing.T) {
	r := newRepository(t, 300)
	checkAdd(t, "first", r, sample(1, 160), 1, api.OK)
	checkAdd(t, "second", r, sample(2, 140), 2, api.OK)
	checkAdd(t, "no room", r, []byte{1}, 0, api.ErrFull)
	remove(t, "second", r, 2)
	if r.Free() != 140 {
		t.Errorf("Free is %d", r.Free())
	}
	checkAdd(t, "little room", r, sample(3, 141), 0, api.ErrFull)
	checkAdd(t, "third", r, sample(3, 139), 3, api.OK)
	checkErrno(t, "Clear", r.Clear(r.Reserve()), api.OK)
	if r.Free() != 300 {
		t.Errorf("Free is %d", r.Free())
	}
	checkAdd(t, "fourth", r, sample(4, 160), 4, api.OK)
	checkAdd(t, "fifth", r, sample(5, 140), 5, api.OK)
}
