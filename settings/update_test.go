package settings_test

import (
	"bytes"
	"fmt"
	"slices"
	"testing"

	"baseboard/api"
	"baseboard/flash"
	"baseboard/settings"
)

// The chapter's examples.
func TestExamples(t *testing.T) {
	w := newWorld(t, newDevice(t, 2, size), 0)
	w.check(t, "new", 0)
	w.update(t, "example 1", []api.Setting{put(7, 1, 2)},
		programs(0, 0x01, 0, 0, 0), programs(5, 0x01, 0x07, 0x02, 0x01, 0x02, 0x00), programs(4, 0))
	w.check(t, "example 1", 1, put(7, 1, 2))
	w.update(t, "example 2", []api.Setting{remove(7)}, programs(11, 0x01, 0x07, 0x80, 0x00))
	w.check(t, "example 2", 1)
}

// P6.4: Put and Delete are updates with one change.
func TestPutAndDelete(t *testing.T) {
	d := newDevice(t, 2, size)
	s, plain := open(t, d, 0), d.Clone()
	checkErrno(t, "Put on an erased device", s.Put(7, []byte{1, 2}), api.OK)
	runAll(plain, []operation{programs(0, 1, 0, 0, 0), programs(5, 1, 7, 2, 1, 2, 0), programs(4, 0)})
	checkSame(t, "Put on an erased device", d, plain)
	checkStore(t, "Put on an erased device", s, 1, put(7, 1, 2))
	at := 11
	for _, x := range []struct {
		name  string
		run   func() api.Errno
		bytes []byte
		want  []api.Setting
	}{
		{"Put of a second key", func() api.Errno { return s.Put(3, []byte{9}) }, []byte{1, 3, 1, 9, 0}, []api.Setting{put(3, 9), put(7, 1, 2)}},
		{"Put of no bytes", func() api.Errno { return s.Put(0, nil) }, []byte{1, 0, 0, 0}, []api.Setting{put(0), put(3, 9), put(7, 1, 2)}},
		{"Put of an empty slice", func() api.Errno { return s.Put(3, []byte{}) }, []byte{1, 3, 0, 0}, []api.Setting{put(0), put(3), put(7, 1, 2)}},
		{"Put of the same", func() api.Errno { return s.Put(3, []byte{}) }, []byte{1, 3, 0, 0}, []api.Setting{put(0), put(3), put(7, 1, 2)}},
		{"Delete", func() api.Errno { return s.Delete(3) }, []byte{1, 3, 0x80, 0}, []api.Setting{put(0), put(7, 1, 2)}},
		{"Delete of what is not there", func() api.Errno { return s.Delete(3) }, []byte{1, 3, 0x80, 0}, []api.Setting{put(0), put(7, 1, 2)}},
		{"Put of key 255", func() api.Errno { return s.Put(255, []byte{0xFF, 0}) }, []byte{1, 255, 2, 0xFF, 0, 0}, []api.Setting{put(0), put(7, 1, 2), put(255, 0xFF, 0)}},
		{"Delete of key 0", func() api.Errno { return s.Delete(0) }, []byte{1, 0, 0x80, 0}, []api.Setting{put(7, 1, 2), put(255, 0xFF, 0)}},
	} {
		checkErrno(t, x.name, x.run(), api.OK)
		program(t, plain, at, x.bytes...)
		at += len(x.bytes)
		checkSame(t, x.name, d, plain)
		checkStore(t, x.name, s, 1, x.want...)
		checkStore(t, x.name+", opened again", open(t, d, 0), 1, x.want...)
	}
	long := bytes.Repeat([]byte{1}, 29)
	before := d.Clone()
	checkErrno(t, "Put of 29 bytes", s.Put(1, long), api.ErrInvalid)
	checkErrno(t, "Put of 284 bytes", s.Put(1, make([]byte, 284)), api.ErrInvalid)
	checkSame(t, "Put of too much", d, before)
	checkErrno(t, "Put of 28 bytes", s.Put(1, long[:28]), api.OK)
	checkStore(t, "Put of 28 bytes", s, 1, put(1, long[:28]...), put(7, 1, 2), put(255, 0xFF, 0))
}

func checkErrno(t *testing.T, what string, e, want api.Errno) {
	t.Helper()
	if e != want {
		t.Errorf("%s returns error %d, not %d", what, e, want)
	}
}

// P6.4: all keys, one after the other.
func TestAllKeys(t *testing.T) {
	d := newDevice(t, 2, size)
	s := open(t, d, 0)
	for key := range 256 {
		x := put(uint8(key), byte(key), byte(255-key))
		checkErrno(t, "Put", s.Put(x.Key, x.Value), api.OK)
		checkStore(t, "after Put", s, s.Generation(), x)
		checkStore(t, "opened again", open(t, d, 0), s.Generation(), x)
		checkErrno(t, "Delete", s.Delete(x.Key), api.OK)
		checkStore(t, "after Delete", s, s.Generation())
	}
}

// crowded returns a store with 32 settings, the keys 100 to 131, and its device.
func crowded(t *testing.T) (*settings.Store, *flash.Device) {
	t.Helper()
	d := newDevice(t, 2, size)
	s := open(t, d, 0)
	checkErrno(t, "Update with 32 changes", s.Update(several(100, 32, 2)), api.OK)
	return s, d
}

// P6.2, R4, R5: a call with an error changes nothing.
func TestErrorsOfUpdate(t *testing.T) {
	twentyNine := bytes.Repeat([]byte{7}, 29)
	long, gone := put(1, twentyNine...), api.Setting{Key: 2, Value: []byte{0}, Delete: true}
	for _, x := range []struct {
		name string
		l    []api.Setting
		want api.Errno
	}{
		{"33 changes", several(100, 33, 1), api.ErrLimit},
		{"33 deletions", deletions(100, 33), api.ErrLimit},
		{"300 changes", slices.Repeat(several(0, 1, 0), 300), api.ErrLimit},
		{"33 changes of a key", slices.Repeat([]api.Setting{put(100)}, 33), api.ErrLimit},
		{"33 changes, the first too long", append([]api.Setting{long}, several(100, 32, 1)...), api.ErrLimit},
		{"33 changes, the last too long", append(several(100, 32, 1), long), api.ErrLimit},
		{"33 changes, a value with Delete", append([]api.Setting{gone}, several(100, 32, 1)...), api.ErrLimit},
		{"288 changes", append(several(100, 200, 0), several(0, 88, 0)...), api.ErrLimit},
		{"29 bytes", []api.Setting{long}, api.ErrInvalid},
		{"30 bytes", several(1, 1, 30), api.ErrInvalid},
		{"128 bytes", several(1, 1, 128), api.ErrInvalid},
		{"255 bytes", several(1, 1, 255), api.ErrInvalid},
		{"256 bytes", several(1, 1, 256), api.ErrInvalid},
		{"257 bytes", several(1, 1, 257), api.ErrInvalid},
		{"2000 bytes", several(1, 1, 2000), api.ErrInvalid},
		{"29 bytes in the last of 32 changes", append(several(100, 31, 1), long), api.ErrInvalid},
		{"a value with Delete", []api.Setting{gone}, api.ErrInvalid},
		{"a value with Delete of a key that is there", []api.Setting{{Key: 100, Value: []byte{1}, Delete: true}}, api.ErrInvalid},
		{"a value of 28 bytes with Delete", []api.Setting{{Key: 1, Value: twentyNine[:28], Delete: true}}, api.ErrInvalid},
		{"a value of 29 bytes with Delete", []api.Setting{{Key: 1, Value: twentyNine, Delete: true}}, api.ErrInvalid},
		{"a value with Delete behind others", []api.Setting{put(100), remove(101), gone}, api.ErrInvalid},
		{"a key twice", []api.Setting{put(100, 1), put(100, 2)}, api.ErrDuplicate},
		{"a key twice with the same value", []api.Setting{put(100, 1), put(100, 1)}, api.ErrDuplicate},
		{"a key that is put and deleted", []api.Setting{put(100, 1), remove(100)}, api.ErrDuplicate},
		{"a key that is deleted and put", []api.Setting{remove(100), put(100, 1)}, api.ErrDuplicate},
		{"a key that is deleted twice", []api.Setting{remove(100), remove(100)}, api.ErrDuplicate},
		{"key 0 twice", []api.Setting{remove(0), remove(0)}, api.ErrDuplicate},
		{"key 255 twice", []api.Setting{remove(255), remove(100), remove(255)}, api.ErrDuplicate},
		{"the first and the last of 32 changes", append(several(100, 31, 1), put(100)), api.ErrDuplicate},
		{"too long, then a key twice", []api.Setting{long, put(100), put(100)}, api.ErrInvalid},
		{"a key twice, then too long", []api.Setting{put(100), put(100), long}, api.ErrDuplicate},
		{"a key twice, then a value with Delete", []api.Setting{put(100), put(100), gone}, api.ErrDuplicate},
		{"a key twice, the second too long", []api.Setting{put(1), long}, api.ErrInvalid},
		{"a key twice, the first too long", []api.Setting{long, put(1)}, api.ErrInvalid},
		{"a key twice, the second a value with Delete", []api.Setting{put(2), gone}, api.ErrInvalid},
		{"a 33rd key", []api.Setting{put(99, 1)}, api.ErrLimit},
		{"a 33rd key without bytes", []api.Setting{put(132)}, api.ErrLimit},
		{"a 33rd key and the deletion of one that is not there", []api.Setting{put(99), remove(98)}, api.ErrLimit},
		{"two keys and a deletion", []api.Setting{remove(100), put(98), put(99)}, api.ErrLimit},
		{"32 further keys", several(0, 32, 0), api.ErrLimit},
		{"a 33rd key, then too long", []api.Setting{put(99), put(98), long}, api.ErrInvalid},
		{"a 33rd key, then a key twice", []api.Setting{put(99), put(98), put(99)}, api.ErrDuplicate},
	} {
		s, d := crowded(t)
		before := d.Clone()
		checkErrno(t, x.name, s.Update(x.l), x.want)
		checkSame(t, x.name, d, before)
		checkStore(t, x.name, s, 1, several(100, 32, 2)...)
		checkErrno(t, "an update after "+x.name, s.Put(100, []byte{1}), api.OK)
		d.Arm(1, 0)
		checkErrno(t, x.name+" on an armed device", s.Update(x.l), x.want)
		if d.Down() {
			t.Errorf("%s: takes a step", x.name)
		}
	}
}

// P6.2: the errors also hold without an active sector, but for the keys that are there.
func TestErrorsOfUpdateOnErasedDevice(t *testing.T) {
	for _, x := range []struct {
		l    []api.Setting
		want api.Errno
	}{
		{several(0, 33, 0), api.ErrLimit},
		{several(0, 1, 29), api.ErrInvalid},
		{[]api.Setting{{Delete: true, Value: []byte{0}}}, api.ErrInvalid},
		{deletions(5, 1), api.OK},
		{slices.Concat(deletions(5, 1), deletions(5, 1)), api.ErrDuplicate},
	} {
		d := newDevice(t, 2, size)
		s := open(t, d, 0)
		checkErrno(t, fmt.Sprint(x.l), s.Update(x.l), x.want)
		if changed := d.Steps() != 0 || s.Generation() != 0; changed != (x.want == api.OK) {
			t.Errorf("%v: changed: %t", x.l, changed)
		}
	}
}

// P6.2: updates that reach a limit and do not exceed it.
func TestUpdatesAtTheLimits(t *testing.T) {
	old := several(100, 32, 2)
	for _, x := range []struct {
		name string
		l    []api.Setting
	}{
		{"all values again", several(100, 32, 3)},
		{"a value", []api.Setting{put(131, 9)}},
		{"a deletion", []api.Setting{remove(100)}},
		{"a deletion, then a key", []api.Setting{remove(100), put(0, 9)}},
		{"a key, then a deletion", []api.Setting{put(0, 9), remove(100)}},
		{"keys, then as many deletions", append(several(0, 16, 1), deletions(110, 16)...)},
		{"32 deletions", deletions(100, 32)},
		{"32 deletions of what is not there", deletions(0, 32)},
		{"a deletion of what is not there", []api.Setting{remove(99)}},
		{"the greatest value", several(100, 1, 28)},
		{"a deletion with an empty value", []api.Setting{{Key: 100, Value: []byte{}, Delete: true}}},
	} {
		s, d := crowded(t)
		plain := d.Clone()
		checkErrno(t, x.name, s.Update(x.l), api.OK)
		program(t, plain, 5+len(batch(old...)), batch(x.l...)...)
		checkSame(t, x.name, d, plain)
		checkStore(t, x.name, s, 1, applied(old, x.l)...)
		checkStore(t, x.name+", opened again", open(t, d, 0), 1, applied(old, x.l)...)
	}
}

// P6.2
func TestUpdateOfNoChanges(t *testing.T) {
	for _, d := range []*flash.Device{
		newDevice(t, 4, size),
		deviceWith(t, sector(3, 0, batch(put(1, 2))), nil),
		deviceWith(t, sector(3, 0, filled(size-5)), nil),
		deviceWith(t, nil, sector(3, 0, batch(put(1, 2)), []byte{0})),
		deviceWith(t, sector(1<<31, 0, filled(size-5)), sector(1, 1)),
	} {
		s := open(t, d, 1)
		generation, l := s.Generation(), s.All()
		before := d.Clone()
		d.Arm(1, 0)
		checkErrno(t, "Update of nil", s.Update(nil), api.OK)
		checkErrno(t, "Update of an empty list", s.Update([]api.Setting{}), api.OK)
		checkErrno(t, "Update of an empty part of a list", s.Update(several(1, 3, 1)[:0]), api.OK)
		checkSame(t, "Update of no changes", d, before)
		checkStore(t, "Update of no changes", s, generation, l...)
	}
}

// P6.3: the batch has the changes in the order of the list, and the one in another sector all settings ascending by key.
func TestOrderOfChanges(t *testing.T) {
	l := []api.Setting{put(200, 1), remove(3), put(5), put(4, 4, 4), remove(255), put(0, 9)}
	w := newWorld(t, deviceWith(t, nil, nil), 1)
	w.update(t, "an erased device", l, programs(size, 1, 0, 0, 0), programs(size+5, batch(put(0, 9), put(4, 4, 4), put(5), put(200, 1))...), programs(size+4, 0))
	w.check(t, "an erased device", 1, put(0, 9), put(4, 4, 4), put(5), put(200, 1))
	at := size + 5 + len(batch(put(0, 9), put(4, 4, 4), put(5), put(200, 1)))
	slices.Reverse(l)
	w.update(t, "a batch", l, programs(at, batch(l...)...))
	w.check(t, "a batch", 1, put(0, 9), put(4, 4, 4), put(5), put(200, 1))
}

// P6.3: from sector to sector, the first time without an erasure.
func TestChangesOfSector(t *testing.T) {
	d := deviceWith(t, nil, nil)
	w := newWorld(t, d, 1)
	l := several(10, 32, 28)
	w.update(t, "generation 1", l, moves(1, 1, l, false)...)
	w.check(t, "generation 1", 1, l...)
	w.update(t, "a batch of 32 bytes", several(10, 1, 28), programs(2*size-57, batch(several(10, 1, 28)...)...))
	w.update(t, "a batch that ends at the end", several(11, 1, 21), programs(2*size-25, batch(several(11, 1, 21)...)...))
	l[1] = several(11, 1, 21)[0]
	w.check(t, "a batch that ends at the end", 1, l...)
	l = slices.Delete(l, 1, 2)
	w.update(t, "generation 2", deletions(11, 1), moves(2, 2, l, false)...)
	w.check(t, "generation 2", 2, l...)
	w.update(t, "32 deletions", deletions(10, 32), programs(3*size-87, batch(deletions(10, 32)...)...))
	w.check(t, "32 deletions", 2)
	w.update(t, "generation 3", several(5, 1, 28), moves(1, 3, several(5, 1, 28), true)...)
	w.check(t, "generation 3", 3, several(5, 1, 28)...)
	w.update(t, "a batch in generation 3", several(5, 32, 28), programs(size+5+32, batch(several(5, 32, 28)...)...))
	w.check(t, "a batch in generation 3", 3, several(5, 32, 28)...)
	l = append(several(5, 1, 22), several(6, 31, 28)...)
	w.update(t, "generation 4", several(5, 1, 22), moves(2, 4, l, true)...)
	w.check(t, "generation 4", 4, l...)
	if wear := d.Wear(); !slices.Equal(wear, []int{0, 1, 1, 0}) {
		t.Errorf("the wear is %v", wear)
	}
}

// P6.3: the batch fits into the tail exactly, or is one byte or more longer.
func TestBatchesThatFit(t *testing.T) {
	for _, change := range []api.Setting{put(77, 1, 2, 3, 4), put(77), remove(2), remove(78), put(77, make([]byte, 28)...)} {
		b := batch(change)
		for left := range len(b) + 3 {
			for place := 1; place <= 2; place++ {
				n := size - 5 - left
				sectors := [3][]byte{}
				sectors[place] = sector(5, 0, filled(n))
				w := newWorld(t, deviceWith(t, sectors[1], sectors[2]), 1)
				what := fmt.Sprintf("a batch of %d bytes in a tail of %d at sector %d", len(b), left, place)
				after := applied([]api.Setting{leftBy(n)}, []api.Setting{change})
				if len(b) <= left {
					w.update(t, what, []api.Setting{change}, programs((place+1)*size-left, b...))
					w.check(t, what, 5, after...)
					continue
				}
				w.update(t, what, []api.Setting{change}, moves(3-place, 6, after, false)...)
				w.check(t, what, 6, after...)
			}
		}
	}
}

// moves returns the operations that write settings to a sector.
func moves(sector int, generation uint32, l []api.Setting, erase bool) []operation {
	var operations []operation
	if erase {
		operations = append(operations, erases(sector))
	}
	operations = append(operations, programs(sector*size, byte(generation), byte(generation>>8), byte(generation>>16), byte(generation>>24)))
	if len(l) > 0 {
		operations = append(operations, programs(sector*size+5, batch(l...)...))
	}
	return append(operations, programs(sector*size+4, 0))
}

// P6.3: the other sector is erased unless all its bytes are FF hex.
func TestErasuresOfTheOtherSector(t *testing.T) {
	full := sector(5, 0, filled(size-5))
	last := append(bytes.Repeat([]byte{0xFF}, size-1), 0x7F)
	for _, x := range []struct {
		name  string
		other []byte
		erase bool
	}{
		{"erased", nil, false},
		{"programmed with FF hex", bytes.Repeat([]byte{0xFF}, size), false},
		{"an older generation", sector(4, 0, batch(put(1, 2))), true},
		{"an older generation without settings", sector(4, 0), true},
		{"a torn generation", []byte{6}, true},
		{"a generation without a status", sector(6, 0xFF, batch(put(1, 2))), true},
		{"a status alone", []byte{0xFF, 0xFF, 0xFF, 0xFF, 0}, true},
		{"generation 0", sector(0, 0, batch(put(1, 2))), true},
		{"a generation that is too great", sector(1<<31+1, 0, batch(put(1, 2))), true},
		{"zeros", make([]byte, size), true},
		{"a bit of the first byte", []byte{0xFE}, true},
		{"a bit of the last byte", last, true},
	} {
		for place := 1; place <= 2; place++ {
			sectors := [3][]byte{}
			sectors[place], sectors[3-place] = full, x.other
			w := newWorld(t, deviceWith(t, sectors[1], sectors[2]), 1)
			what := fmt.Sprintf("%s, from sector %d", x.name, place)
			after := []api.Setting{leftBy(size - 5), put(7, 8)}
			w.update(t, what, []api.Setting{put(7, 8)}, moves(3-place, 6, after, x.erase)...)
			w.check(t, what, 6, after...)
			w.update(t, what+", again", []api.Setting{put(9)}, programs((3-place)*size+5+len(batch(after...)), batch(put(9))...))
			w.check(t, what+", again", 6, append(after, put(9))...)
		}
	}
}

// P6.3: without an active sector the sector first is written, with generation 1.
func TestUpdateWithoutActiveSector(t *testing.T) {
	for _, x := range []struct {
		name      string
		low, high []byte
		erase     bool
	}{
		{"erased", nil, nil, false},
		{"the second sector not valid", nil, sector(9, 1, batch(put(1, 2))), false},
		{"the first sector not valid", sector(9, 0xFF, batch(put(1, 2))), nil, true},
		{"a bit of the last byte", append(bytes.Repeat([]byte{0xFF}, size-1), 0xFE), nil, true},
		{"both not valid", sector(0, 0, batch(put(1, 2))), sector(1<<31+1, 0, batch(put(3, 4))), true},
	} {
		for _, l := range [][]api.Setting{{put(5, 6)}, {remove(1)}, {put(200), put(5, 6, 7), remove(1)}} {
			after := applied(nil, l)
			w := newWorld(t, deviceWith(t, x.low, x.high), 1)
			w.check(t, x.name, 0)
			what := fmt.Sprintf("%s, %v", x.name, l)
			w.update(t, what, l, moves(1, 1, after, x.erase)...)
			w.check(t, what, 1, after...)
			at := size + 5
			if len(after) > 0 {
				at += len(batch(after...))
			}
			w.update(t, what+", again", []api.Setting{put(0)}, programs(at, batch(put(0))...))
			w.check(t, what+", again", 1, applied(after, []api.Setting{put(0)})...)
		}
	}
}

// P6.3: without settings no batch is written, and the next one begins at offset 5.
func TestChangeOfSectorWithoutSettings(t *testing.T) {
	for place := 1; place <= 2; place++ {
		for _, other := range [][]byte{nil, sector(4, 0, batch(put(1, 2)))} {
			sectors := [3][]byte{}
			sectors[place], sectors[3-place] = sector(5, 0, filled(size-5-2)), other
			w := newWorld(t, deviceWith(t, sectors[1], sectors[2]), 1)
			what := fmt.Sprintf("from sector %d", place)
			w.update(t, what, []api.Setting{remove(2)}, moves(3-place, 6, nil, other != nil)...)
			w.check(t, what, 6)
			w.update(t, what+", again", []api.Setting{put(1, 1)}, programs((3-place)*size+5, batch(put(1, 1))...))
			w.check(t, what+", again", 6, put(1, 1))
		}
	}
}

// P6.3: a tail that is not erased is not written, however small the batch is.
func TestUpdateAfterTornTail(t *testing.T) {
	good := batch(put(1, 2), put(3, 4))
	for i, tail := range [][]byte{{1}, {0}, {0xFE}, {1, 9, 4, 5}, {0xFF, 0}, append(bytes.Repeat([]byte{0xFF}, size-5-len(good)-1), 0)} {
		for place := 1; place <= 2; place++ {
			sectors := [3][]byte{}
			sectors[place] = sector(0xFF, 0, good, tail)
			w := newWorld(t, deviceWith(t, sectors[1], sectors[2]), 1)
			what := fmt.Sprintf("tail %d in sector %d", i, place)
			w.check(t, what, 255, put(1, 2), put(3, 4))
			w.update(t, what, []api.Setting{remove(3)}, moves(3-place, 0x100, []api.Setting{put(1, 2)}, false)...)
			w.check(t, what, 256, put(1, 2))
			w.update(t, what, []api.Setting{put(3, 4)}, programs((3-place)*size+5+5, batch(put(3, 4))...))
			w.check(t, what, 256, put(1, 2), put(3, 4))
		}
	}
}

// P6.3
func TestGenerations(t *testing.T) {
	for _, g := range []uint32{1, 2, 0xFE, 0xFF, 0x100, 0xFFFF, 0x01FEFDFC, 0x00FFFFFF, 0x7EFFFFFF, 1<<31 - 2, 1<<31 - 1} {
		for place := 1; place <= 2; place++ {
			sectors := [3][]byte{}
			sectors[place], sectors[3-place] = sector(g, 0, filled(size-5)), sector(g-1, 0)
			w := newWorld(t, deviceWith(t, sectors[1], sectors[2]), 1)
			after := []api.Setting{leftBy(size - 5), put(7, 8)}
			what := fmt.Sprintf("from generation %X", g)
			w.update(t, what, []api.Setting{put(7, 8)}, moves(3-place, g+1, after, true)...)
			w.check(t, what, int(g)+1, after...)
		}
	}
}

// P6.3, R5: after MaxGeneration there is none, but batches can still be written.
func TestGreatestGeneration(t *testing.T) {
	for place := 1; place <= 2; place++ {
		for _, other := range [][]byte{nil, sector(1<<31-1, 0, batch(put(9, 9)))} {
			sectors := [3][]byte{}
			sectors[place], sectors[3-place] = sector(1<<31, 0, filled(size-5-10)), other
			d := deviceWith(t, sectors[1], sectors[2])
			w := newWorld(t, d, 1)
			old := []api.Setting{leftBy(size - 5 - 10)}
			for _, l := range [][]api.Setting{several(5, 1, 7), several(5, 1, 28), several(5, 31, 28), deletions(2, 5)} {
				before := d.Clone()
				checkErrno(t, "Update after MaxGeneration", w.s.Update(l), api.ErrLimit)
				checkSame(t, "Update after MaxGeneration", d, before)
				w.check(t, "Update after MaxGeneration", 1<<31, old...)
			}
			checkErrno(t, "a value that is too long", w.s.Update(several(5, 1, 29)), api.ErrInvalid)
			w.update(t, "a batch in MaxGeneration", several(5, 1, 6), programs((place+1)*size-10, batch(several(5, 1, 6)...)...))
			after := append(old, several(5, 1, 6)...)
			w.check(t, "a batch in MaxGeneration", 1<<31, after...)
			checkErrno(t, "Delete after MaxGeneration", w.s.Delete(2), api.ErrLimit)
			checkErrno(t, "no changes after MaxGeneration", w.s.Update(nil), api.OK)
			d.Arm(1, 0)
			checkErrno(t, "Put after MaxGeneration on an armed device", w.s.Put(2, nil), api.ErrLimit)
			if d.Down() {
				t.Error("Put after MaxGeneration takes a step")
			}
			w.check(t, "after MaxGeneration", 1<<31, after...)
		}
	}
}

// P6.4: Get, All and Generation do not use the device.
func TestQuestionsDoNotUseTheDevice(t *testing.T) {
	d := deviceWith(t, sector(6, 0, batch(put(8, 3, 4), put(7))), nil)
	s := open(t, d, 1)
	d.Arm(1, 0)
	checkStore(t, "armed", s, 6, put(7), put(8, 3, 4))
	if d.Down() {
		t.Error("the questions take a step")
	}
	d.Arm(0, 0)
	takeDown(t, d)
	before := d.Clone()
	checkStore(t, "down", s, 6, put(7), put(8, 3, 4))
	checkSame(t, "down", d, before)
}

// P6.4: a value of no bytes is there, and a key without a value is not.
func TestEmptyValues(t *testing.T) {
	s := open(t, newDevice(t, 2, size), 0)
	checkErrno(t, "Put", s.Put(1, nil), api.OK)
	if b, ok := s.Get(1); len(b) != 0 || !ok {
		t.Errorf("Get of an empty value is % X, %t", b, ok)
	}
	if b, ok := s.Get(2); b != nil || ok {
		t.Errorf("Get of no value is %v, %t", b, ok)
	}
	checkErrno(t, "Delete", s.Delete(1), api.OK)
	if b, ok := s.Get(1); b != nil || ok {
		t.Errorf("Get of a deleted value is %v, %t", b, ok)
	}
}
