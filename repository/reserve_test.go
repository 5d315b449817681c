package repository_test

import (
	"fmt"
	"testing"

	"baseboard/api"
	"baseboard/repository"
)

// P11.2: each reservation in two rounds and a bit; only the last one is valid.
func TestReservationsGoRound(t *testing.T) {
	for _, records := range []int{0, 2} {
		r := withShorts(t, records)
		want := uint16(0)
		for range 2*65535 + 70 {
			old := want
			want++
			if want == 0 {
				want = 1
			}
			checkReserve(t, "in a row", r, want)
			for _, n := range []uint16{0, old, want + 1} {
				if isValid(t, "in a row", r, n) {
					t.Errorf("the reservation %d is valid at %d", n, want)
				}
			}
			if !isValid(t, "in a row", r, want) {
				t.Errorf("the reservation %d is not valid", want)
			}
		}
		if want != 70 {
			t.Errorf("the last reservation is %d", want)
		}
	}
}

// P11.2: of all numbers, exactly one is valid.
func TestOneReservationIsValid(t *testing.T) {
	r := withShorts(t, 3)
	for _, want := range []uint16{1, 2, 3, 255, 256, 257, 32768, 65534, 65535, 1} {
		for r.Reserve() != want {
		}
		for n := range 65536 {
			if isValid(t, "one", r, uint16(n)) != (uint16(n) == want) {
				t.Errorf("at the reservation %d, %d is valid: %t", want, n, uint16(n) != want)
			}
		}
	}
}

// call is a call of a repository, with the error that it has to return.
type call struct {
	name    string
	make    func(*repository.Repository) api.Errno
	want    api.Errno
	invalid bool // whether the reservation 7 is not valid behind it
}

func adds(n int) func(*repository.Repository) api.Errno {
	return func(r *repository.Repository) api.Errno {
		_, e := r.Add(make([]byte, n))
		return e
	}
}

func gets(id uint16) func(*repository.Repository) api.Errno {
	return func(r *repository.Repository) api.Errno {
		_, _, e := r.Get(id)
		return e
	}
}

func reads(reservation, id uint16, offset, count int) func(*repository.Repository) api.Errno {
	return func(r *repository.Repository) api.Errno {
		_, _, e := r.Read(reservation, id, offset, count)
		return e
	}
}

func deletes(reservation, id uint16) func(*repository.Repository) api.Errno {
	return func(r *repository.Repository) api.Errno { return r.Delete(reservation, id) }
}

func clears(reservation uint16) func(*repository.Repository) api.Errno {
	return func(r *repository.Repository) api.Errno { return r.Clear(reservation) }
}

// callsOfThree are calls of a repository that has the short records 1 to 3 and 20 bytes left, and whose valid reservation is 7.
func callsOfThree() []call {
	return []call{
		{"Add", adds(1), api.OK, true},
		{"Add of all that is free", adds(20), api.OK, true},
		{"Add of nothing", adds(0), api.ErrInvalid, false},
		{"Add of 161 bytes", adds(161), api.ErrInvalid, false},
		{"Add without room", adds(21), api.ErrFull, false},
		{"Get of the first one", gets(0), api.OK, false},
		{"Get of 2", gets(2), api.OK, false},
		{"Get of 4", gets(4), api.ErrMissing, false},
		{"Read of the first one", reads(7, 0, 1, 1), api.OK, false},
		{"Read of 3", reads(7, 3, 0, 2), api.OK, false},
		{"Read of 3 with another reservation", reads(6, 3, 0, 2), api.OK, false},
		{"Read with another reservation", reads(6, 3, 1, 1), api.ErrReservation, false},
		{"Read with the reservation 0", reads(0, 3, 1, 1), api.ErrReservation, false},
		{"Read of 4", reads(7, 4, 1, 1), api.ErrMissing, false},
		{"Read beyond the end", reads(7, 3, 1, 100), api.ErrRange, false},
		{"Delete of 1", deletes(7, 1), api.OK, true},
		{"Delete of 3", deletes(7, 3), api.OK, true},
		{"Delete of 0", deletes(7, 0), api.ErrMissing, false},
		{"Delete of 4", deletes(7, 4), api.ErrMissing, false},
		{"Delete with another reservation", deletes(8, 1), api.ErrReservation, false},
		{"Delete with the reservation 0", deletes(0, 1), api.ErrReservation, false},
		{"Clear", clears(7), api.OK, true},
		{"Clear with another reservation", clears(6), api.ErrReservation, false},
		{"Clear with the reservation 0", clears(0), api.ErrReservation, false},
		{"IDs", func(r *repository.Repository) api.Errno { r.IDs(); return api.OK }, api.OK, false},
		{"Free", func(r *repository.Repository) api.Errno { r.Free(); return api.OK }, api.OK, false},
	}
}

// three returns the repository of callsOfThree.
func three(t *testing.T) *repository.Repository {
	t.Helper()
	free := 20
	for _, x := range shorts(1, 2, 3) {
		free += len(x.b)
	}
	r := newRepository(t, free)
	for _, x := range shorts(1, 2, 3) {
		addShort(t, r, x.id)
	}
	for n := uint16(1); n <= 7; n++ {
		checkReserve(t, "three", r, n)
	}
	return r
}

// P11.2: which calls make a reservation invalid, each of them behind each one that does not.
func TestWhatMakesReservationsInvalid(t *testing.T) {
	for _, x := range callsOfThree() {
		for _, y := range callsOfThree() {
			if x.invalid {
				continue
			}
			r := three(t)
			what := x.name + ", " + y.name
			checkErrno(t, what, x.make(r), x.want)
			checkValid(t, what, r, 7)
			checkErrno(t, what, y.make(r), y.want)
			want := 7
			if y.invalid {
				want = none
			}
			checkValid(t, what, r, want, 6, 7, 8)
			checkReserve(t, what, r, 8)
			checkValid(t, what, r, 8, 6, 7)
		}
	}
}

// R5: a call that returns an error changes nothing.
func TestErrorsChangeNothing(t *testing.T) {
	for _, x := range callsOfThree() {
		if x.want == api.OK {
			continue
		}
		r := three(t)
		capacity := r.Free()
		for _, y := range shorts(1, 2, 3) {
			capacity += len(y.b)
		}
		for range 3 {
			checkErrno(t, x.name, x.make(r), x.want)
			checkRecords(t, x.name, r, capacity, shorts(1, 2, 3)...)
			checkValid(t, x.name, r, 7, 6, 8)
		}
		addShort(t, r, 4)
		checkReserve(t, x.name, r, 8)
	}
}

// P11.2: what is not there makes nothing invalid, and a Clear without records does.
func TestReservationOfEmptyRepository(t *testing.T) {
	r := newRepository(t, 10)
	checkReserve(t, "empty", r, 1)
	for _, x := range []call{
		{"Delete of 0", deletes(1, 0), api.ErrMissing, false},
		{"Delete of 1", deletes(1, 1), api.ErrMissing, false},
		{"Get", gets(0), api.ErrMissing, false},
		{"Read", reads(1, 0, 1, 0), api.ErrMissing, false},
		{"Add without room", adds(11), api.ErrFull, false},
		{"Clear", clears(1), api.OK, true},
		{"Clear again", clears(1), api.ErrReservation, true},
	} {
		checkErrno(t, x.name, x.make(r), x.want)
		if isValid(t, x.name, r, 1) == x.invalid {
			t.Errorf("%s: the reservation is valid: %t", x.name, x.invalid)
		}
	}
	checkReserve(t, "cleared", r, 2)
	checkValid(t, "cleared", r, 2)
}

// P11.2: ErrLimit makes no reservation invalid.
func TestReservationOfFullRepository(t *testing.T) {
	r := withShorts(t, 64)
	checkReserve(t, "64 records", r, 1)
	checkAdd(t, "64 records", r, []byte{1}, 0, api.ErrLimit)
	checkValid(t, "64 records", r, 1)
	checkErrno(t, "64 records", r.Delete(1, 64), api.OK)
	checkValid(t, "63 records", r, none)
}

// P11.2: reservations count on, whatever makes them invalid, also over the greatest one; one that is not valid any more stays so.
func TestReservationsGoOn(t *testing.T) {
	r := newRepository(t, most)
	last, id := uint16(0), uint16(0)
	for i := range 2 * 65535 {
		last = last%65535 + 1
		what := fmt.Sprintf("call %d", i)
		checkReserve(t, what, r, last)
		switch {
		case i%5 == 0:
			checkErrno(t, what, r.Clear(last), api.OK)
		case len(r.IDs()) > 0:
			checkErrno(t, what, r.Delete(last, id), api.OK)
		default:
			id = id%65534 + 1
			checkAdd(t, what, r, []byte{1}, id, api.OK)
		}
		for _, n := range []uint16{0, last - 1, last, last + 1} {
			if isValid(t, what, r, n) {
				t.Errorf("%s: the reservation %d is valid", what, n)
			}
		}
	}
}

// P11.2: a reservation belongs to one repository.
func TestReservationsOfOtherRepositories(t *testing.T) {
	a, b := withShorts(t, 2), withShorts(t, 3)
	checkReserve(t, "a", a, 1)
	checkValid(t, "b", b, none)
	checkReserve(t, "a", a, 2)
	checkReserve(t, "b", b, 1)
	checkErrno(t, "b", b.Delete(2, 1), api.ErrReservation)
	checkErrno(t, "b", b.Clear(1), api.OK)
	checkValid(t, "a", a, 2)
	checkRecords(t, "a", a, most, shorts(1, 2)...)
	checkErrno(t, "a", a.Delete(2, 1), api.OK)
	checkRecords(t, "a", a, most, short(2))
	checkRecords(t, "b", b, most)
}
