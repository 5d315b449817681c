package repository_test

import (
	"fmt"
	"math"
	"testing"

	"baseboard/api"
	"baseboard/repository"
)

// P11.1: written down by hand.
func TestNew(t *testing.T) {
	for _, n := range []int{1, 2, 160, 161, 10239, 10240} {
		what := fmt.Sprintf("capacity %d", n)
		r := newRepository(t, n)
		checkRecords(t, what, r, n)
		checkValid(t, what, r, none)
	}
	for _, n := range []int{0, -1, -160, -10240, 10241, 10242, 1 << 20, math.MaxInt, math.MinInt, 1<<32 + 1} {
		if r, e := repository.New(n); r != nil || e != api.ErrRange {
			t.Errorf("New of %d is %p, error %d", n, r, e)
		}
	}
}

// P11.1
func TestAllCapacities(t *testing.T) {
	for n := -300; n <= most+300; n++ {
		r, e := repository.New(n)
		if n < 1 || n > most {
			if r != nil || e != api.ErrRange {
				t.Errorf("New of %d is %p, error %d", n, r, e)
			}
			continue
		}
		if e != api.OK || r.Free() != n || len(r.IDs()) != 0 {
			t.Errorf("New of %d returns error %d, Free is %d, the IDs are %v", n, e, r.Free(), r.IDs())
		}
	}
}

// P11.1, P11.2: without a reservation none is valid, for all calls that need one.
func TestNoReservationAtFirst(t *testing.T) {
	r := newRepository(t, 10)
	for n := range 65536 {
		if isValid(t, "new", r, uint16(n)) || r.Clear(uint16(n)) != api.ErrReservation {
			t.Errorf("the reservation %d is valid at first", n)
		}
	}
	checkReserve(t, "new", r, 1)
}

// P11.3: all lengths, where there is room.
func TestAddLengths(t *testing.T) {
	r := newRepository(t, most)
	var want []rec
	for n := range 400 {
		what := fmt.Sprintf("%d bytes", n)
		if n < 1 || n > api.MaxRecord {
			checkAdd(t, what, r, sample(n, n), 0, api.ErrInvalid)
			checkRecords(t, what, r, most, want...)
			continue
		}
		if len(want) == 40 {
			checkErrno(t, what, r.Clear(r.Reserve()), api.OK)
			want = nil
		}
		checkAdd(t, what, r, sample(n, n), uint16(n), api.OK)
		want = append(want, rec{uint16(n), sample(n, n)})
		checkRecords(t, what, r, most, want...)
	}
	checkAdd(t, "no bytes", r, nil, 0, api.ErrInvalid)
	checkAdd(t, "many bytes", r, make([]byte, 70000), 0, api.ErrInvalid)
	checkAdd(t, "256 bytes and one", r, make([]byte, 257), 0, api.ErrInvalid)
	checkAdd(t, "65536 bytes and one", r, make([]byte, 65537), 0, api.ErrInvalid)
	checkRecords(t, "at the end", r, most, want...)
}

// P11.1, P11.3: records as long as Free, one byte shorter and one byte longer, behind no record and behind others.
func TestAddAsLongAsFree(t *testing.T) {
	for free := 1; free <= api.MaxRecord; free++ {
		for _, others := range []int{0, 1, 63, 100, 160, 161, 1000} {
			for longer := -1; longer <= 1; longer++ {
				n := free + longer
				if n < 1 || n > api.MaxRecord {
					continue
				}
				capacity := free + others
				r, want := filled(t, capacity, others)
				what := fmt.Sprintf("%d bytes where %d of %d are free", n, free, capacity)
				if longer > 0 {
					checkAdd(t, what, r, sample(1, n), 0, api.ErrFull)
				} else {
					checkAdd(t, what, r, sample(1, n), uint16(len(want)+1), api.OK)
					want = append(want, rec{uint16(len(want) + 1), sample(1, n)})
				}
				checkRecords(t, what, r, capacity, want...)
			}
		}
	}
}

// filled returns a repository with so many bytes in records.
func filled(t *testing.T, capacity, n int) (*repository.Repository, []rec) {
	t.Helper()
	r := newRepository(t, capacity)
	var l []rec
	for n > 0 {
		id := uint16(len(l) + 1)
		b := sample(int(id), min(n, api.MaxRecord))
		checkAdd(t, "filling", r, b, id, api.OK)
		l = append(l, rec{id, b})
		n -= len(b)
	}
	return r, l
}

// P11.1, P11.3: the least and the greatest capacity, full.
func TestAddToFull(t *testing.T) {
	r := newRepository(t, 1)
	checkAdd(t, "capacity 1", r, []byte{1, 2}, 0, api.ErrFull)
	checkAdd(t, "capacity 1", r, []byte{7}, 1, api.OK)
	for n := 1; n <= api.MaxRecord; n++ {
		checkAdd(t, "capacity 1, full", r, sample(n, n), 0, api.ErrFull)
	}
	checkRecords(t, "capacity 1, full", r, 1, rec{1, []byte{7}})
	remove(t, "capacity 1, full", r, 1)
	checkAdd(t, "capacity 1 again", r, []byte{8}, 2, api.OK)

	r, want := filled(t, most, most)
	if len(want) != api.MaxRecords || r.Free() != 0 {
		t.Errorf("the greatest capacity has %d records, and %d bytes are free", len(want), r.Free())
	}
	checkAdd(t, "greatest capacity, full", r, []byte{1}, 0, api.ErrLimit)
	checkRecords(t, "greatest capacity, full", r, most, want...)

	r, want = filled(t, most-1, most-1)
	checkAdd(t, "one byte less than the greatest capacity, full", r, []byte{1}, 0, api.ErrLimit)
	checkRecords(t, "one byte less than the greatest capacity, full", r, most-1, want...)
}

// P11.3: MaxRecords records and one more.
func TestAddManyRecords(t *testing.T) {
	r := newRepository(t, most)
	var want []rec
	for id := uint16(1); id <= 64; id++ {
		addShort(t, r, id)
		want = append(want, short(id))
		checkRecords(t, "many", r, most, want...)
	}
	for n := 1; n <= api.MaxRecord; n++ {
		checkAdd(t, "one more", r, sample(n, n), 0, api.ErrLimit)
	}
	checkRecords(t, "one more", r, most, want...)
	remove(t, "one less", r, 20)
	addShort(t, r, 65)
	want = append(append(append([]rec{}, want[:19]...), want[20:]...), short(65))
	checkRecords(t, "one less and one more", r, most, want...)
	checkAdd(t, "one more again", r, []byte{1}, 0, api.ErrLimit)
	checkErrno(t, "one more again", r.Clear(r.Reserve()), api.OK)
	addShort(t, r, 66)
	checkRecords(t, "cleared", r, most, short(66))
}

// P11.3, R4: two or three errors at once.
func TestAddErrorsInOrder(t *testing.T) {
	for name, x := range map[string]struct {
		capacity, records int
		few, long         api.Errno // of 1 byte, and of 160
	}{
		"room":              {most, 10, api.OK, api.OK},
		"little room":       {30, 10, api.OK, api.ErrFull},
		"no room":           {10, 10, api.ErrFull, api.ErrFull},
		"many":              {most, 64, api.ErrLimit, api.ErrLimit},
		"many, little room": {65, 64, api.ErrLimit, api.ErrLimit},
		"many, no room":     {64, 64, api.ErrLimit, api.ErrLimit},
	} {
		r := newRepository(t, x.capacity)
		for i := range x.records {
			checkAdd(t, name, r, []byte{byte(i)}, uint16(i+1), api.OK)
		}
		checkAdd(t, name, r, nil, 0, api.ErrInvalid)
		checkAdd(t, name, r, []byte{}, 0, api.ErrInvalid)
		checkAdd(t, name, r, make([]byte, 161), 0, api.ErrInvalid)
		checkAdd(t, name, r, make([]byte, most+1), 0, api.ErrInvalid)
		for _, b := range [][]byte{make([]byte, 160), {1}} {
			want := x.few
			if len(b) == 160 {
				want = x.long
			}
			id := uint16(0)
			if want == api.OK {
				id = uint16(len(r.IDs()) + 1)
			}
			checkAdd(t, name, r, b, id, want)
		}
	}
}

// P11.3: an ID is the one behind the last one, whatever was deleted, cleared or refused in between.
func TestIDsGoOn(t *testing.T) {
	r := newRepository(t, 20)
	addShort(t, r, 1)
	addShort(t, r, 2)
	remove(t, "the last one", r, 2)
	addShort(t, r, 3)
	remove(t, "the first one", r, 1)
	checkAdd(t, "empty", r, nil, 0, api.ErrInvalid)
	checkAdd(t, "long", r, make([]byte, 161), 0, api.ErrInvalid)
	checkAdd(t, "no room", r, make([]byte, 21), 0, api.ErrFull)
	addShort(t, r, 4)
	checkRecords(t, "two", r, 20, shorts(3, 4)...)
	checkErrno(t, "Clear", r.Clear(r.Reserve()), api.OK)
	addShort(t, r, 5)
	remove(t, "the only one", r, 5)
	checkErrno(t, "Clear without records", r.Clear(r.Reserve()), api.OK)
	addShort(t, r, 6)
	checkRecords(t, "one", r, 20, short(6))
	r = newRepository(t, 20)
	checkErrno(t, "Clear of a new repository", r.Clear(r.Reserve()), api.OK)
	checkErrno(t, "Delete in a new repository", r.Delete(r.Reserve(), 1), api.ErrMissing)
	addShort(t, r, 1)
}

// P11.3: all IDs in a row; behind MaxID comes 1.
func TestIDsGoRound(t *testing.T) {
	r := newRepository(t, 3)
	want := uint16(0)
	for range 2*api.MaxID + 10 {
		want++
		if want == 65535 {
			want = 1
		}
		checkAdd(t, "in a row", r, []byte{byte(want)}, want, api.OK)
		checkGet(t, "in a row", r, want, []byte{byte(want)}, 0, api.OK)
		remove(t, "in a row", r, want)
	}
	if want != 10 {
		t.Errorf("the last ID is %d", want)
	}
}

// P11.3: over MaxID, with a record that stays there.
func TestIDBehindGreatest(t *testing.T) {
	for _, deleted := range []bool{false, true} {
		r := newRepository(t, most)
		turn(t, r, 65532)
		addShort(t, r, 65533)
		addShort(t, r, 65534)
		if deleted {
			remove(t, "the greatest", r, 65534)
		}
		addShort(t, r, 1)
		addShort(t, r, 2)
		want := shorts(65533, 65534, 1, 2)
		if deleted {
			want = shorts(65533, 1, 2)
		}
		checkRecords(t, "over the greatest", r, most, want...)
	}
	r := newRepository(t, most)
	turn(t, r, 65533)
	checkErrno(t, "Clear", r.Clear(r.Reserve()), api.OK)
	addShort(t, r, 65534)
	checkErrno(t, "Clear", r.Clear(r.Reserve()), api.OK)
	addShort(t, r, 1)
}

// P11.3: IDs that records have are left out, at the beginning, at the end and over MaxID.
func TestIDsAreLeftOut(t *testing.T) {
	for name, x := range map[string]struct {
		kept, next []uint16 // the IDs of records that stay from the first round on, and the IDs of the second round
	}{
		"first":       {[]uint16{1}, []uint16{65533, 65534, 2, 3}},
		"beginning":   {[]uint16{1, 2, 3}, []uint16{65533, 65534, 4, 5}},
		"gaps":        {[]uint16{1, 2, 5, 7, 8}, []uint16{65533, 65534, 3, 4, 6, 9}},
		"second":      {[]uint16{2}, []uint16{65533, 65534, 1, 3}},
		"last":        {[]uint16{65534}, []uint16{65533, 1, 2}},
		"last two":    {[]uint16{65533, 65534}, []uint16{1, 2}},
		"one to last": {[]uint16{65533}, []uint16{65534, 1, 2}},
		"round":       {[]uint16{1, 2, 4, 65533, 65534}, []uint16{3, 5, 6}},
		"middle":      {[]uint16{30000, 65000}, []uint16{65533, 65534, 1, 2}},
	} {
		r := newRepository(t, most)
		var want []rec
		for _, id := range x.kept {
			if id > 1 && (len(want) == 0 || want[len(want)-1].id != id-1) {
				turn(t, r, id-1)
			}
			addShort(t, r, id)
			want = append(want, short(id))
		}
		turn(t, r, 65532)
		for _, id := range x.next {
			addShort(t, r, id)
			want = append(want, short(id))
			checkRecords(t, name, r, most, want...)
		}
	}
}

// P11.3: an ID that was left out is given again once its record is gone, and a record that was added later may have a lesser ID.
func TestIDIsGivenAgain(t *testing.T) {
	r := withShorts(t, 4)
	turn(t, r, 65534)
	remove(t, "two", r, 2)
	addShort(t, r, 2)
	checkRecords(t, "two again", r, most, shorts(1, 3, 4, 2)...)
	addShort(t, r, 5)
	turn(t, r, 65534)
	remove(t, "one", r, 1)
	remove(t, "three", r, 3)
	addShort(t, r, 1)
	addShort(t, r, 3)
	checkRecords(t, "one and three again", r, most, shorts(4, 2, 5, 1, 3)...)
	addShort(t, r, 6)
}

// P11.3: as many IDs in a row as can be left out.
func TestManyIDsAreLeftOut(t *testing.T) {
	for first, before := range map[uint16]uint16{1: 65534, 20: 19, 65472: 65471, 65504: 65503, 65534: 65533} {
		r := newRepository(t, most)
		turn(t, r, before)
		var want []rec
		id := first
		for range 63 {
			addShort(t, r, id)
			want = append(want, short(id))
			id = id%65534 + 1
		}
		turn(t, r, before)
		addShort(t, r, id)
		checkRecords(t, fmt.Sprintf("from %d on", first), r, most, append(want, short(id))...)
		checkAdd(t, "one more", r, []byte{1}, 0, api.ErrLimit)
	}
}
