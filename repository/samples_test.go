package repository_test

import (
	"bytes"
	"slices"
	"testing"

	"baseboard/api"
	"baseboard/repository"
)

const (
	most = api.MaxRecord * api.MaxRecords // the greatest capacity
	none = -1                             // where a reservation is expected: there is no valid one
)

// rec is a record that a test expects.
type rec struct {
	id uint16
	b  []byte
}

// sample returns n bytes that are others for each n and each number.
func sample(number, n int) []byte {
	b := make([]byte, n)
	for i := range b {
		b[i] = byte(number*37 + n*11 + i*7 + i*i)
	}
	return b
}

// short returns the record with an ID that shortly adds.
func short(id uint16) rec { return rec{id, sample(int(id), 1+int(id)%5)} }

func shorts(ids ...uint16) []rec {
	var l []rec
	for _, id := range ids {
		l = append(l, short(id))
	}
	return l
}

func newRepository(t *testing.T, capacity int) *repository.Repository {
	t.Helper()
	r, e := repository.New(capacity)
	if r == nil || e != api.OK {
		t.Fatalf("New of %d is %p, error %d", capacity, r, e)
	}
	return r
}

// withShorts returns a repository to which n short records were added.
func withShorts(t *testing.T, n int) *repository.Repository {
	t.Helper()
	r := newRepository(t, most)
	for id := 1; id <= n; id++ {
		addShort(t, r, uint16(id))
	}
	return r
}

// addShort adds the short record of the ID that is expected.
func addShort(t *testing.T, r *repository.Repository, id uint16) {
	t.Helper()
	checkAdd(t, "a short record", r, short(id).b, id, api.OK)
}

func checkErrno(t *testing.T, what string, e, want api.Errno) {
	t.Helper()
	if e != want {
		t.Errorf("%s: error %d, not %d", what, e, want)
	}
}

func checkAdd(t *testing.T, what string, r *repository.Repository, b []byte, id uint16, want api.Errno) {
	t.Helper()
	if got, e := r.Add(b); got != id || e != want {
		t.Errorf("%s: Add of %d bytes is %d, error %d, not %d, %d", what, len(b), got, e, id, want)
	}
}

func checkReserve(t *testing.T, what string, r *repository.Repository, want uint16) {
	t.Helper()
	if n := r.Reserve(); n != want {
		t.Errorf("%s: Reserve is %d, not %d", what, n, want)
	}
}

// remove deletes a record under a new reservation.
func remove(t *testing.T, what string, r *repository.Repository, id uint16) {
	t.Helper()
	checkErrno(t, what, r.Delete(r.Reserve(), id), api.OK)
}

func checkGet(t *testing.T, what string, r *repository.Repository, id uint16, b []byte, next uint16, want api.Errno) {
	t.Helper()
	got, n, e := r.Get(id)
	if !bytes.Equal(got, b) || n != next || e != want {
		t.Errorf("%s: Get of %d is % X, %d, error %d, not % X, %d, %d", what, id, got, n, e, b, next, want)
	}
	if want != api.OK && got != nil {
		t.Errorf("%s: Get of %d is error %d, with bytes that are not nil", what, id, e)
	}
}

func checkRead(t *testing.T, what string, r *repository.Repository, reservation, id uint16, offset, count int, b []byte, next uint16, want api.Errno) {
	t.Helper()
	got, n, e := r.Read(reservation, id, offset, count)
	if !bytes.Equal(got, b) || n != next || e != want {
		t.Errorf("%s: Read with %d of %d, %d bytes at %d, is % X, %d, error %d, not % X, %d, %d", what, reservation, id, count, offset, got, n, e, b, next, want)
	}
	if want != api.OK && got != nil {
		t.Errorf("%s: Read with %d of %d, %d bytes at %d, is error %d, with bytes that are not nil", what, reservation, id, count, offset, e)
	}
}

// isValid tells whether a reservation is the valid one, by calls that change nothing whatever it is.
func isValid(t *testing.T, what string, r *repository.Repository, reservation uint16) bool {
	t.Helper()
	_, _, e := r.Read(reservation, 0, -1, 0)
	valid := e != api.ErrReservation
	if e := r.Delete(reservation, 0); (e != api.ErrReservation) != valid || e == api.OK {
		t.Errorf("%s: with the reservation %d, which is valid for Read: %t, Delete of 0 is error %d", what, reservation, valid, e)
	}
	return valid
}

// checkValid checks which one of a few reservations is the valid one.
func checkValid(t *testing.T, what string, r *repository.Repository, want int, others ...uint16) {
	t.Helper()
	l := append([]uint16{0, 1, 2, 3, 65534, 65535}, others...)
	if want != none {
		l = append(l, uint16(want-1), uint16(want), uint16(want+1))
	}
	for _, n := range l {
		if got := isValid(t, what, r, n); got != (int(n) == want) {
			t.Errorf("%s: the reservation %d is valid: %t", what, n, got)
		}
	}
}

// checkRecords checks what can be seen of a repository without a change of it, apart from its reservations.
func checkRecords(t *testing.T, what string, r *repository.Repository, capacity int, want ...rec) {
	t.Helper()
	var ids []uint16
	free := capacity
	for _, x := range want {
		ids = append(ids, x.id)
		free -= len(x.b)
	}
	if l := r.IDs(); !slices.Equal(l, ids) {
		t.Errorf("%s: the IDs are %v, not %v", what, l, ids)
	}
	if n := r.Free(); n != free {
		t.Errorf("%s: Free is %d, not %d", what, n, free)
	}
	next := uint16(0)
	for _, x := range slices.Backward(want) {
		checkGet(t, what, r, x.id, x.b, next, api.OK)
		checkRead(t, what, r, 0, x.id, 0, len(x.b), x.b, next, api.OK)
		next = x.id
	}
	for _, id := range []uint16{1, 2, 3, 65534, 65535} {
		if !slices.Contains(ids, id) {
			checkGet(t, what, r, id, nil, 0, api.ErrMissing)
		}
	}
	checkFirst(t, what, r, want)
}

// checkFirst checks what 0 stands for.
func checkFirst(t *testing.T, what string, r *repository.Repository, want []rec) {
	t.Helper()
	if len(want) == 0 {
		checkGet(t, what, r, 0, nil, 0, api.ErrMissing)
		checkRead(t, what, r, 0, 0, 0, 0, nil, 0, api.ErrMissing)
		return
	}
	next := uint16(0)
	if len(want) > 1 {
		next = want[1].id
	}
	checkGet(t, what, r, 0, want[0].b, next, api.OK)
	checkRead(t, what, r, 0, 0, 0, len(want[0].b), want[0].b, next, api.OK)
}

// turn adds and deletes records until the ID that was given last is the wanted one. It neither leaves a record behind nor makes more than one at a time.
func turn(t *testing.T, r *repository.Repository, want uint16) {
	t.Helper()
	for range 65534 {
		id, e := r.Add([]byte{0})
		checkErrno(t, "turning", e, api.OK)
		remove(t, "turning", r, id)
		if id == want {
			return
		}
	}
	t.Fatalf("no record got the ID %d", want)
}
