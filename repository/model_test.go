package repository_test

import (
	"fmt"
	"math"
	"math/rand"
	"slices"
	"strings"
	"testing"

	"baseboard/api"
	"baseboard/repository"
)

// model is what the chapter says that a repository remembers, as plainly as it says it.
type model struct {
	capacity int
	order    []uint16
	text     map[uint16]string
	last     int // the ID that was given last
	reserves int // how many reservations there were
	valid    int
}

func (m *model) free() int {
	n := m.capacity
	for _, s := range m.text {
		n -= len(s)
	}
	return n
}

func (m *model) reserve() uint16 {
	m.valid = m.reserves%65535 + 1
	m.reserves++
	return uint16(m.valid)
}

func (m *model) add(b []byte) (uint16, api.Errno) {
	if n := len(b); n < 1 || n > 160 {
		return 0, api.ErrInvalid
	}
	if len(m.order) == 64 {
		return 0, api.ErrLimit
	}
	if len(b) > m.free() {
		return 0, api.ErrFull
	}
	id := uint16(0)
	for had := true; had; {
		m.last = m.last%65534 + 1
		id = uint16(m.last)
		_, had = m.text[id]
	}
	m.order = append(m.order, id)
	m.text[id] = string(b)
	m.valid = none
	return id, api.OK
}

// answer is what Get and Read return.
type answer struct {
	b    string
	next uint16
	e    api.Errno
}

func (m *model) get(id uint16) answer {
	if id == 0 && len(m.order) > 0 {
		id = m.order[0]
	}
	s, ok := m.text[id]
	if !ok {
		return answer{e: api.ErrMissing}
	}
	l := append(slices.Clone(m.order), 0)
	return answer{s, l[slices.Index(l, id)+1], api.OK}
}

func (m *model) read(reservation, id uint16, offset, count int) answer {
	if offset != 0 && int(reservation) != m.valid {
		return answer{e: api.ErrReservation}
	}
	a := m.get(id)
	if a.e != api.OK {
		return a
	}
	n := len(a.b)
	if offset < 0 || offset > n || count < 0 || count > n || offset+count > n {
		return answer{e: api.ErrRange}
	}
	a.b = a.b[offset : offset+count]
	return a
}

func (m *model) delete(reservation, id uint16) api.Errno {
	if int(reservation) != m.valid {
		return api.ErrReservation
	}
	if _, ok := m.text[id]; !ok {
		return api.ErrMissing
	}
	delete(m.text, id)
	m.order = slices.DeleteFunc(m.order, func(x uint16) bool { return x == id })
	m.valid = none
	return api.OK
}

func (m *model) clear(reservation uint16) api.Errno {
	if int(reservation) != m.valid {
		return api.ErrReservation
	}
	m.order, m.text, m.valid = nil, map[uint16]string{}, none
	return api.OK
}

// run is a repository with its model.
type run struct {
	r      *repository.Repository
	m      *model
	number int // of the next record that is added
	counts map[string]int
}

func newRun(t *testing.T, capacity int) *run {
	t.Helper()
	m := &model{capacity: capacity, text: map[uint16]string{}, valid: none}
	return &run{r: newRepository(t, capacity), m: m, counts: map[string]int{}}
}

// check checks what can be seen of the repository.
func (x *run) check(t *testing.T, what string) {
	t.Helper()
	var want []rec
	for _, id := range x.m.order {
		want = append(want, rec{id, []byte(x.m.text[id])})
	}
	checkRecords(t, what, x.r, x.m.capacity, want...)
	checkValid(t, what, x.r, x.m.valid, uint16(x.m.reserves%65535))
}

func (x *run) count(call string, e api.Errno) { x.counts[fmt.Sprintf("%s %d", call, e)]++ }

func (x *run) add(t *testing.T, what string, n int) {
	t.Helper()
	x.number++
	b := sample(x.number, n)
	id, want := x.m.add(b)
	checkAdd(t, what, x.r, b, id, want)
	x.count("Add", want)
}

func (x *run) reserve(t *testing.T, what string) {
	t.Helper()
	checkReserve(t, what, x.r, x.m.reserve())
}

func (x *run) get(t *testing.T, what string, id uint16) {
	t.Helper()
	a := x.m.get(id)
	checkGet(t, what, x.r, id, []byte(a.b), a.next, a.e)
	x.count("Get", a.e)
}

func (x *run) read(t *testing.T, what string, reservation, id uint16, offset, count int) {
	t.Helper()
	a := x.m.read(reservation, id, offset, count)
	checkRead(t, what, x.r, reservation, id, offset, count, []byte(a.b), a.next, a.e)
	x.count("Read", a.e)
}

func (x *run) delete(t *testing.T, what string, reservation, id uint16) {
	t.Helper()
	e := x.m.delete(reservation, id)
	checkErrno(t, what+", Delete", x.r.Delete(reservation, id), e)
	x.count("Delete", e)
}

func (x *run) clear(t *testing.T, what string, reservation uint16) {
	t.Helper()
	e := x.m.clear(reservation)
	checkErrno(t, what+", Clear", x.r.Clear(reservation), e)
	x.count("Clear", e)
}

// drawReservation returns most often the valid one.
func (x *run) drawReservation(r *rand.Rand) uint16 {
	last := uint16(x.m.reserves % 65535)
	if r.Intn(5) == 0 {
		return []uint16{0, 1, last - 1, last + 1, 65535, uint16(r.Uint32())}[r.Intn(6)]
	}
	if x.m.valid == none {
		return last
	}
	return uint16(x.m.valid)
}

// drawID returns most often that of a record.
func (x *run) drawID(r *rand.Rand) uint16 {
	if len(x.m.order) == 0 || r.Intn(6) == 0 {
		return []uint16{0, 1, uint16(x.m.last), uint16(x.m.last + 1), 65534, 65535, uint16(r.Uint32())}[r.Intn(7)]
	}
	return x.m.order[r.Intn(len(x.m.order))]
}

// drawLength returns the length of a record, often one at a bound.
func (x *run) drawLength(r *rand.Rand) int {
	free := max(x.m.free(), 0)
	switch r.Intn(12) {
	case 0:
		return []int{0, 1, 159, 160, 161, 162, 1000}[r.Intn(7)]
	case 1:
		return []int{free, free + 1, max(free-1, 0)}[r.Intn(3)]
	case 2, 3:
		return 1 + r.Intn(160)
	}
	return 1 + r.Intn(12)
}

func (x *run) drawRead(t *testing.T, r *rand.Rand, what string) {
	t.Helper()
	id := x.drawID(r)
	n := len(x.m.get(id).b)
	offset := r.Intn(n + 1)
	count := r.Intn(n - offset + 1)
	switch r.Intn(10) {
	case 0:
		offset = 0
	case 1:
		count = n - offset + r.Intn(2)
	case 2:
		offset = -1 - r.Intn(3)
	case 3:
		count = -1 - r.Intn(3)
	case 4:
		offset = n + r.Intn(3)
	case 5:
		offset, count = int(r.Uint64()), int(r.Uint64())
	case 6:
		offset, count = r.Intn(n+1), math.MaxInt-r.Intn(n+1)
	}
	x.read(t, what, x.drawReservation(r), id, offset, count)
}

// step makes a drawn call. Without many a Clear is as likely as others, so that there are never many records.
func (x *run) step(t *testing.T, r *rand.Rand, what string, many bool) {
	t.Helper()
	switch k := r.Intn(24); {
	case k < 7:
		x.add(t, what, x.drawLength(r))
	case k < 11:
		x.reserve(t, what)
	case k < 16:
		x.drawRead(t, r, what)
	case k < 18:
		x.get(t, what, x.drawID(r))
	case k < 22 && (!many || r.Intn(3) == 0):
		x.delete(t, what, x.drawReservation(r), x.drawID(r))
	case k < 24 && (!many || r.Intn(60) == 0):
		x.clear(t, what, x.drawReservation(r))
	default:
		x.add(t, what, 1+r.Intn(3))
	}
}

// P11.1 to P11.7: drawn calls, with little room and with much.
func TestDrawnCalls(t *testing.T) {
	counts := map[string]int{}
	for seed := range int64(400) {
		r := rand.New(rand.NewSource(seed))
		x := newRun(t, []int{1, 2, 10, 100, 400, most - 1, most}[r.Intn(7)])
		for i := range 250 {
			what := fmt.Sprintf("seed %d, call %d", seed, i)
			x.step(t, r, what, seed%2 == 0)
			x.check(t, what)
			if t.Failed() {
				t.FailNow()
			}
		}
		for name, n := range x.counts {
			counts[name] += n
		}
	}
	for _, name := range []string{
		"Add 0", "Add 1", "Add 3", "Add 9", "Get 0", "Get 8", "Read 0", "Read 11", "Read 8", "Read 2", "Delete 0", "Delete 11", "Delete 8", "Clear 0", "Clear 11",
	} {
		if counts[name] < 300 {
			t.Errorf("only %d times %s: %v", counts[name], name, counts)
		}
	}
	if len(counts) != 15 {
		t.Errorf("the errors are %v", counts)
	}
}

// turn gives IDs away up to the wanted one, or the first one behind it that no record has, and does so in the next round if they are given already.
func (x *run) turn(t *testing.T, want int) {
	t.Helper()
	for x.m.last >= want {
		x.give(t)
	}
	for x.m.last < want {
		x.give(t)
	}
}

// give adds a record and deletes it.
func (x *run) give(t *testing.T) {
	t.Helper()
	id, e := x.m.add([]byte{0})
	checkAdd(t, "turning", x.r, []byte{0}, id, e)
	n := x.m.reserve()
	checkReserve(t, "turning", x.r, n)
	checkErrno(t, "turning", x.r.Delete(n, id), x.m.delete(n, id))
	if t.Failed() {
		t.FailNow()
	}
}

// P11.2, P11.3: drawn calls over several rounds of the IDs and of the reservations, with records of the round before.
func TestDrawnCallsOverRounds(t *testing.T) {
	given := 0
	for seed := range int64(6) {
		r := rand.New(rand.NewSource(seed))
		x := newRun(t, 2000)
		for round := range 4 {
			for i := range 150 {
				what := fmt.Sprintf("seed %d, round %d, call %d", seed, round, i)
				if i == 50 && round > 0 && x.m.last > 100 {
					given++
				}
				x.step(t, r, what, true)
				x.check(t, what)
			}
			for len(x.m.order) > 40 {
				x.reserve(t, "fewer")
				x.delete(t, "fewer", uint16(x.m.valid), x.drawID(r))
			}
			x.turn(t, 65534-r.Intn(60))
		}
	}
	if given < 6 {
		t.Errorf("only %d times were there calls at the greatest IDs", given)
	}
}

// P11.1 to P11.7: all sequences of a few calls.
func TestAllShortSequences(t *testing.T) {
	calls := []func(x *run, what string){
		func(x *run, what string) { x.add(t, what, 2) },
		func(x *run, what string) { x.add(t, what, 3) },
		func(x *run, what string) { x.reserve(t, what) },
		func(x *run, what string) { x.read(t, what, uint16(x.m.reserves), 2, 1, 1) },
		func(x *run, what string) { x.delete(t, what, uint16(x.m.reserves), 1) },
		func(x *run, what string) { x.delete(t, what, uint16(x.m.reserves), 3) },
		func(x *run, what string) { x.delete(t, what, uint16(max(x.m.reserves-1, 0)), 2) },
		func(x *run, what string) { x.clear(t, what, uint16(x.m.reserves)) },
	}
	const length = 6
	count := 1
	for range length {
		count *= len(calls)
	}
	for i := range count {
		x := newRun(t, 5)
		// Each sequence has the digits of a number, so that no two are equal.
		for rest, n := i, 0; n < length; n++ {
			calls[rest%len(calls)](x, "short")
			rest /= len(calls)
		}
		x.check(t, fmt.Sprintf("sequence %d", i))
		if t.Failed() {
			t.FailNow()
		}
	}
}

// reader reads a record in parts under one reservation, as someone does who has only what Reserve and Read return.
type reader struct {
	reservation uint16
	id          uint16
	before      string // the record at the first part
	parts       []string
	size        int
}

// Consequences: parts that are read one after the other under one reservation, without an error, are parts of one record as it was all the time.
func TestPartsAreOfOneRecord(t *testing.T) {
	whole, broken, changed := 0, 0, 0
	for seed := range int64(3000) {
		r := rand.New(rand.NewSource(seed))
		x := newRun(t, 600)
		for i := range 1 + r.Intn(8) {
			x.add(t, fmt.Sprintf("seed %d, record %d", seed, i), 2+r.Intn(60))
		}
		d := &reader{reservation: x.r.Reserve(), id: x.drawID(r), size: 1 + r.Intn(9)}
		x.m.reserve()
		d.before = x.m.get(d.id).b
		for e := api.OK; e == api.OK && len(strings.Join(d.parts, "")) < len(d.before); {
			if e = d.next(x.r); e != api.OK {
				broken++
				checkErrno(t, "a part", e, api.ErrReservation)
				continue
			}
			if a := x.m.get(d.id); a.e != api.OK || a.b != d.before {
				changed++
				t.Errorf("seed %d: a part was read of another record", seed)
			}
			if r.Intn(4) == 0 {
				x.step(t, r, fmt.Sprintf("seed %d", seed), false)
			}
		}
		if s := strings.Join(d.parts, ""); !strings.HasPrefix(d.before, s) {
			t.Errorf("seed %d: the parts are % X, the record was % X", seed, s, d.before)
		} else if s != "" && s == d.before {
			whole++
		}
	}
	if whole < 500 || broken < 500 || changed > 0 {
		t.Errorf("%d records were read, %d readers met an error, %d read another record", whole, broken, changed)
	}
}

// next reads the next part.
func (d *reader) next(r *repository.Repository) api.Errno {
	at := len(strings.Join(d.parts, ""))
	b, _, e := r.Read(d.reservation, d.id, at, min(d.size, len(d.before)-at))
	if e == api.OK {
		d.parts = append(d.parts, string(b))
	}
	return e
}

// Consequences: two records never have the same ID, over many calls and over several rounds of the IDs. Some records stay for good, so that they are met again.
func TestNoIDIsThereTwice(t *testing.T) {
	for seed := range int64(4) {
		r := rand.New(rand.NewSource(seed))
		x := newRepository(t, most)
		kept := map[uint16]bool{}
		rounds, last := 0, uint16(0)
		for range 400000 {
			if n := len(kept); n == 64 || n > 0 && r.Intn(2) == 0 {
				l := x.IDs()
				if id := l[r.Intn(len(l))]; id%5000 > 1 {
					remove(t, "drawn", x, id)
					delete(kept, id)
				}
				continue
			}
			id, e := x.Add([]byte{1})
			if e != api.OK || kept[id] || id < 1 || id > 65534 {
				t.Fatalf("seed %d: Add gives %d, error %d, which a record has: %t", seed, id, e, kept[id])
			}
			kept[id] = true
			if id < last {
				rounds++
			}
			last = id
		}
		if rounds < 2 || !kept[5000] || !kept[5001] {
			t.Errorf("seed %d: there were %d rounds, and the records are %v", seed, rounds, x.IDs())
		}
	}
}

// Consequences: going from Get(0) along next visits all records in their order, and so does Read.
func TestWalk(t *testing.T) {
	walked := 0
	for seed := range int64(300) {
		r := rand.New(rand.NewSource(seed))
		x := newRun(t, 3000)
		for i := range 60 {
			x.step(t, r, fmt.Sprintf("seed %d, call %d", seed, i), true)
			byGet := walk(t, func(id uint16) ([]byte, uint16, api.Errno) { return x.r.Get(id) })
			byRead := walk(t, func(id uint16) ([]byte, uint16, api.Errno) { return x.r.Read(0, id, 0, len(x.m.get(id).b)) })
			var want []string
			for _, id := range x.m.order {
				want = append(want, x.m.text[id])
			}
			if !slices.Equal(byGet, want) || !slices.Equal(byRead, want) {
				t.Fatalf("seed %d, call %d: Get goes along %q, Read along %q, the records are %q", seed, i, byGet, byRead, want)
			}
			walked = max(walked, len(want))
		}
	}
	if walked < 20 {
		t.Errorf("at most %d records were visited", walked)
	}
}

// walk goes from the first record along next, over at most as many records as there can be.
func walk(t *testing.T, get func(id uint16) ([]byte, uint16, api.Errno)) []string {
	t.Helper()
	var l []string
	id := uint16(0)
	for range api.MaxRecords + 1 {
		b, next, e := get(id)
		if e == api.ErrMissing && id == 0 {
			return nil
		}
		checkErrno(t, "walking", e, api.OK)
		l = append(l, string(b))
		if next == 0 {
			return l
		}
		id = next
	}
	t.Errorf("the walk does not end")
	return nil
}

// R1
func FuzzCalls(f *testing.F) {
	f.Add(int64(1), 10, 5, 3, uint16(1), uint16(1))
	f.Add(int64(2), most, -1, math.MaxInt, uint16(0), uint16(65535))
	f.Add(int64(3), math.MinInt, math.MinInt, math.MinInt, uint16(65535), uint16(0))
	f.Fuzz(func(t *testing.T, seed int64, capacity, offset, count int, reservation, id uint16) {
		if _, e := repository.New(capacity); e != api.OK {
			capacity = 100
		}
		x := newRun(t, capacity)
		r := rand.New(rand.NewSource(seed))
		for range 30 {
			x.step(t, r, "fuzzed", true)
			x.read(t, "fuzzed", reservation, id, offset, count)
			x.get(t, "fuzzed", id)
			x.delete(t, "fuzzed", reservation, id)
			x.clear(t, "fuzzed", reservation)
			x.check(t, "fuzzed")
		}
	})
}
