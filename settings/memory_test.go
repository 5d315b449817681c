package settings_test

import (
	"bytes"
	"fmt"
	"math/rand"
	"slices"
	"testing"

	"baseboard/api"
	"baseboard/flash"
	"baseboard/settings"
)

// copied returns a list that shares no memory with another one.
func copied(l []api.Setting) []api.Setting {
	c := slices.Clone(l)
	for i := range c {
		c[i].Value = bytes.Clone(c[i].Value)
	}
	return c
}

// roomy returns a copy of a list whose array, and the arrays of whose values, go on behind them.
func roomy(l []api.Setting) []api.Setting {
	r := append(copied(l), put(0xDD, 0xDD), remove(0xDD))
	for i, x := range r {
		r[i].Value = append(slices.Clone(x.Value), 0xDD, 0xDD, 0xDD)[:len(x.Value)]
	}
	return r[:len(l)]
}

// memory is all memory of a list, also what lies behind it and behind its values.
func memory(l []api.Setting) string {
	text := ""
	for _, x := range l[:cap(l)] {
		text += fmt.Sprintf("%d %d % X %t, ", x.Key, len(x.Value), x.Value[:cap(x.Value)], x.Delete)
	}
	return text
}

// overwrite overwrites all memory of a list.
func overwrite(l []api.Setting) {
	l = l[:cap(l)]
	for i := range l {
		b := l[i].Value[:cap(l[i].Value)]
		for j := range b {
			b[j] = 0xEE
		}
		l[i] = api.Setting{Key: 0xEE, Value: b, Delete: true}
	}
}

// R2: of updates that write a batch, that change the sector, and that return an error.
func TestUpdateNeitherChangesNorKeepsList(t *testing.T) {
	tooLong := append(several(20, 3, 5), put(1, make([]byte, 29)...))
	for i, low := range [][]byte{nil, sector(6, 0, batch(put(8, 3, 4))), sector(6, 0, filled(1016)), sector(1<<31, 0, filled(1016))} {
		for j, l := range [][]api.Setting{several(20, 3, 5), {put(30, 1), remove(8), put(3)}, several(100, 32, 28), tooLong, several(1, 33, 1), append(several(1, 2, 2), several(1, 2, 2)...)} {
			for failing := range 8 {
				what := fmt.Sprintf("device %d, list %d, failing at step %d", i, j, failing)
				d := deviceWith(t, low, nil)
				s := open(t, d, 1)
				given := roomy(l)
				before := memory(given)
				d.Arm(failing, 0x0F)
				s.Update(given)
				if after := memory(given); after != before {
					t.Errorf("%s: %s became %s", what, before, after)
				}
				generation, seen, flashed := s.Generation(), copied(s.All()), d.Clone()
				overwrite(given)
				before = memory(given)
				checkStore(t, what, s, generation, seen...)
				checkSame(t, what, d, flashed)
				d.Restore()
				s.Update([]api.Setting{put(20, 7, 7, 7), remove(30)})
				s.Update(several(50, 32, 28))
				if after := memory(given); after != before {
					t.Errorf("%s: %s became %s by later updates", what, before, after)
				}
			}
		}
	}
}

// R2
func TestPutNeitherChangesNorKeepsValue(t *testing.T) {
	array := []byte{1, 2, 3, 4, 5}
	s := open(t, newDevice(t, 2, size), 0)
	checkErrno(t, "Put", s.Put(7, array[:3]), api.OK)
	if !bytes.Equal(array, []byte{1, 2, 3, 4, 5}) {
		t.Errorf("the value became % X", array)
	}
	clear(array)
	checkStore(t, "the value was overwritten", s, 1, put(7, 1, 2, 3))
	checkErrno(t, "Put", s.Put(7, []byte{9, 9, 9}), api.OK)
	if !bytes.Equal(array, make([]byte, 5)) {
		t.Errorf("the value became % X by a later Put", array)
	}
}

// R2: of stores that read their settings and of stores that wrote them.
func TestResultsShareNoMemory(t *testing.T) {
	l := []api.Setting{put(1, 1, 2, 3), put(2), put(3, bytes.Repeat([]byte{9}, 28)...), put(200, 7)}
	d := deviceWith(t, sector(6, 0, batch(l...)), nil)
	written := open(t, d.Clone(), 1)
	checkErrno(t, "Update", written.Update(l), api.OK)
	moved := open(t, deviceWith(t, sector(5, 0, []byte{0}), nil), 1)
	checkErrno(t, "Update", moved.Update(l), api.OK)
	for name, s := range map[string]*settings.Store{"read": open(t, d, 1), "written": written, "moved": moved} {
		all, again := s.All(), s.All()
		overwrite(all)
		if !equalSettings(again, l) {
			t.Errorf("%s: two results of All share memory: %v", name, again)
		}
		checkStore(t, name+", after All", s, 6, l...)
		for _, x := range l {
			first, _ := s.Get(x.Key)
			second, _ := s.Get(x.Key)
			overwrite([]api.Setting{{Value: first}})
			if !bytes.Equal(second, x.Value) {
				t.Errorf("%s: two results of Get share memory: % X", name, second)
			}
		}
		checkStore(t, name+", after Get", s, 6, l...)
		value, _ := s.Get(3)
		again = s.All()
		checkErrno(t, "Update", s.Update([]api.Setting{put(3, bytes.Repeat([]byte{8}, 28)...), remove(1), put(2, 2)}), api.OK)
		if !bytes.Equal(value, l[2].Value) || !equalSettings(again, l) {
			t.Errorf("%s: results changed with the store: % X, %v", name, value, again)
		}
	}
}

// R2: the values of one result of All are apart, also what lies behind them.
func TestValuesOfAllAreApart(t *testing.T) {
	l := several(10, 32, 13)
	s := open(t, deviceWith(t, sector(6, 0, batch(l...)), nil), 1)
	for i := range l {
		all := s.All()
		overwrite(all[i : i+1 : i+1])
		all[i] = l[i]
		if !equalSettings(all, l) {
			t.Errorf("setting %d shares memory with others: %v", i, all)
		}
	}
}

// R2: the bytes that Read of the device returned are not those that a store keeps.
func TestStoresOfCopiesAreApart(t *testing.T) {
	d := deviceWith(t, sector(6, 0, batch(put(1, 1), put(2, 2))), nil)
	c := d.Clone()
	first, second := open(t, d, 1), open(t, c, 1)
	checkErrno(t, "Put", first.Put(1, []byte{7}), api.OK)
	checkErrno(t, "Delete", second.Delete(2), api.OK)
	checkStore(t, "first", first, 6, put(1, 7), put(2, 2))
	checkStore(t, "second", second, 6, put(1, 1))
	d.Arm(1, 0)
	checkErrno(t, "the failing Put", first.Put(1, nil), api.ErrPower)
	checkEnded(t, "first", first, d)
	checkStore(t, "second", second, 6, put(1, 1))
}

// R7: the same calls lead to the same, whatever happens to other stores in between.
func TestStoresAreApart(t *testing.T) {
	for seed := range int64(20) {
		lists := drawLists(rand.New(rand.NewSource(seed)), 40)
		strange := drawLists(rand.New(rand.NewSource(seed+1000)), 40)
		first, second, other := newDevice(t, 2, size), newDevice(t, 2, size), newDevice(t, 2, size)
		s := open(t, first, 0)
		var errors []api.Errno
		var states []*flash.Device
		for _, l := range lists {
			errors = append(errors, s.Update(l))
			states = append(states, first.Clone())
		}
		s2, s3 := open(t, second, 0), open(t, other, 0)
		for i, l := range lists {
			s3.Update(strange[i])
			what := fmt.Sprintf("seed %d, update %d", seed, i)
			checkErrno(t, what, s2.Update(l), errors[i])
			checkSame(t, what, second, states[i])
		}
		checkStore(t, fmt.Sprintf("seed %d", seed), s2, s.Generation(), s.All()...)
	}
}
