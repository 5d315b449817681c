package repository_test

import (
	"bytes"
	"fmt"
	"math/rand"
	"slices"
	"sync"
	"testing"

	"baseboard/api"
	"baseboard/repository"
)

// R2: also the bytes behind a record, in the same memory, stay.
func TestAddLeavesAndKeepsNoBytes(t *testing.T) {
	for _, n := range []int{0, 1, 2, 100, 160, 161} {
		r := newRepository(t, 170)
		array := append(sample(3, n), 0xAA, 0xAA, 0xAA)
		before := slices.Clone(array)
		_, e := r.Add(array[:n])
		if !bytes.Equal(array, before) {
			t.Errorf("% X became % X", before, array)
		}
		array = array[:cap(array)]
		for i := range array {
			array[i] = 0x55
		}
		if e == api.OK {
			checkRecords(t, "its bytes were overwritten", r, 170, rec{1, before[:n]})
		}
		if b, _, e := r.Get(1); e == api.OK {
			clear(b[:cap(b)])
		}
		if slices.Contains(array, 0) {
			t.Errorf("a result shares memory with what was added: % X", array)
		}
	}
}

// R2: the same bytes, added twice, are two records.
func TestAddOfTheSameBytes(t *testing.T) {
	r := newRepository(t, 100)
	b := []byte{1, 2, 3, 4}
	checkAdd(t, "whole", r, b, 1, api.OK)
	checkAdd(t, "again", r, b, 2, api.OK)
	checkAdd(t, "a part", r, b[1:3], 3, api.OK)
	b[2] = 9
	checkAdd(t, "changed", r, b[:3], 4, api.OK)
	checkRecords(t, "the same bytes", r, 100, rec{1, []byte{1, 2, 3, 4}}, rec{2, []byte{1, 2, 3, 4}}, rec{3, []byte{2, 3}}, rec{4, []byte{1, 2, 9}})
	got, _, _ := r.Get(1)
	checkAdd(t, "a result", r, got, 5, api.OK)
	got[0] = 7
	checkGet(t, "a result was added and overwritten", r, 5, []byte{1, 2, 3, 4}, 0, api.OK)
}

// overwrite overwrites all memory of a list, also what lies behind it.
func overwrite[E any](l []E, with E) {
	l = l[:cap(l)]
	for i := range l {
		l[i] = with
	}
}

// R2
func TestResultsShareNoMemory(t *testing.T) {
	want := shorts(1, 2, 3, 4)
	r := withShorts(t, 5)
	remove(t, "five", r, 5)
	n := r.Reserve()
	var results [][]byte
	for range 2 {
		for _, id := range []uint16{0, 1, 2, 3, 4} {
			b, _, _ := r.Get(id)
			results = append(results, b)
			for _, offset := range []int{0, 1} {
				for _, count := range []int{0, 1} {
					b, _, _ = r.Read(n, id, offset, count)
					results = append(results, b)
				}
			}
		}
	}
	copies := make([][]byte, len(results))
	for i, b := range results {
		copies[i] = slices.Clone(b)
	}
	for i, b := range results {
		if !bytes.Equal(b, copies[i]) {
			t.Errorf("result %d shares memory with one before it", i)
		}
		overwrite(b, 0xEE)
	}
	checkRecords(t, "results were overwritten", r, most, want...)

	first, again := r.IDs(), r.IDs()
	overwrite(first, 77)
	if !slices.Equal(again, []uint16{1, 2, 3, 4}) {
		t.Errorf("two lists of IDs share memory: %v", again)
	}
	checkRecords(t, "a list was overwritten", r, most, want...)
}

// R2: results stay as they are, whatever is called later.
func TestResultsStay(t *testing.T) {
	for seed := range int64(60) {
		r := rand.New(rand.NewSource(seed))
		x := newRun(t, 2000)
		var results [][]byte
		var lists [][]uint16
		var copies []string
		for i := range 80 {
			what := fmt.Sprintf("seed %d, call %d", seed, i)
			x.step(t, r, what, true)
			id := x.drawID(r)
			b, _, _ := x.r.Get(id)
			c, _, _ := x.r.Read(0, id, 0, len(b)/2)
			results = append(results, b, c)
			lists = append(lists, x.r.IDs())
			copies = append(copies, string(b), string(c), fmt.Sprint(x.r.IDs()))
		}
		for i, l := range lists {
			if got := []string{string(results[2*i]), string(results[2*i+1]), fmt.Sprint(l)}; !slices.Equal(got, copies[3*i:3*i+3]) {
				t.Errorf("seed %d: the results behind call %d became %q, and were %q", seed, i, got, copies[3*i:3*i+3])
			}
		}
	}
}

// R3
func TestNilAndEmptyRecordsAreEqual(t *testing.T) {
	for _, records := range []int{0, 1, 64} {
		a, b := withShorts(t, records), withShorts(t, records)
		checkAdd(t, "nil", a, nil, 0, api.ErrInvalid)
		checkAdd(t, "empty", b, []byte{}, 0, api.ErrInvalid)
		checkAdd(t, "empty, with memory", b, make([]byte, 0, 10), 0, api.ErrInvalid)
		if !slices.Equal(a.IDs(), b.IDs()) || a.Free() != b.Free() {
			t.Errorf("with %d records nil and empty lead to different repositories", records)
		}
	}
}

// history makes drawn calls of a new repository and returns what they lead to.
func history(seed int64) string {
	r := rand.New(rand.NewSource(seed))
	x, e := repository.New(r.Intn(300))
	if e != api.OK {
		return fmt.Sprint(x, e)
	}
	text := ""
	for i := range 300 {
		id, n := uint16(r.Intn(20)), uint16(r.Intn(i+2))
		switch r.Intn(6) {
		case 0:
			text += fmt.Sprint("reserve ", x.Reserve())
		case 1:
			text += fmt.Sprint("delete ", x.Delete(x.Reserve(), id))
		case 2:
			text += fmt.Sprint("clear ", x.Clear(n))
		case 3:
			b, next, e := x.Read(n, id, r.Intn(3), r.Intn(10))
			text += fmt.Sprint("read ", b, next, e)
		default:
			id, e := x.Add(sample(i, r.Intn(20)))
			text += fmt.Sprint("add ", id, e)
		}
		b, next, e := x.Get(id)
		text += fmt.Sprint(" ", b, next, e, x.IDs(), x.Free(), "\n")
	}
	return text
}

// R7: the same calls lead to the same, also when other repositories are used at the same time.
func TestResultsDependOnCallsAlone(t *testing.T) {
	const n = 60
	var alone, together [n]string
	for i := range n {
		alone[i] = history(int64(i))
	}
	var wait sync.WaitGroup
	for i := range n {
		wait.Go(func() { together[i] = history(int64(i)) })
	}
	wait.Wait()
	for i := range n {
		if alone[i] != together[i] {
			t.Errorf("history %d is another one when others run beside it", i)
		}
	}
}

// R7: repositories that take turns do not see each other.
func TestRepositoriesAreApart(t *testing.T) {
	a, b := newRepository(t, 30), newRepository(t, 10)
	for id := uint16(1); id <= 3; id++ {
		addShort(t, a, id)
		checkAdd(t, "b", b, []byte{byte(id)}, id, api.OK)
	}
	remove(t, "b", b, 2)
	checkRecords(t, "a", a, 30, shorts(1, 2, 3)...)
	checkRecords(t, "b", b, 10, rec{1, []byte{1}}, rec{3, []byte{3}})
	checkErrno(t, "a", a.Clear(a.Reserve()), api.OK)
	checkRecords(t, "a", a, 30)
	checkRecords(t, "b", b, 10, rec{1, []byte{1}}, rec{3, []byte{3}})
	checkReserve(t, "b", b, 2)
	checkReserve(t, "a", a, 2)
	addShort(t, a, 4)
	checkAdd(t, "b", b, []byte{4}, 4, api.OK)
}
