package settings_test

import (
	"bytes"
	"fmt"
	"slices"
	"testing"

	"baseboard/api"
	"baseboard/flash"
	"baseboard/settings"
)

// P6.2, P6.5: the store ends at the first update on a device that is down, not before.
func TestUpdateOnDeviceThatIsDown(t *testing.T) {
	for name, update := range map[string]func(s *settings.Store) api.Errno{
		"Put":                          func(s *settings.Store) api.Errno { return s.Put(1, []byte{2}) },
		"Delete":                       func(s *settings.Store) api.Errno { return s.Delete(8) },
		"Update":                       func(s *settings.Store) api.Errno { return s.Update(several(1, 3, 3)) },
		"Update of nothing":            func(s *settings.Store) api.Errno { return s.Update(nil) },
		"Update with 33 changes":       func(s *settings.Store) api.Errno { return s.Update(several(1, 33, 3)) },
		"Put of 29 bytes":              func(s *settings.Store) api.Errno { return s.Put(1, make([]byte, 29)) },
		"a value with Delete":          func(s *settings.Store) api.Errno { return s.Update([]api.Setting{{Value: []byte{1}, Delete: true}}) },
		"a key twice":                  func(s *settings.Store) api.Errno { return s.Update(append(several(1, 1, 1), several(1, 1, 1)...)) },
		"too many keys":                func(s *settings.Store) api.Errno { return s.Update(several(50, 32, 1)) },
		"an update that finds no room": func(s *settings.Store) api.Errno { return s.Update(several(8, 32, 27)) },
	} {
		for generation, d := range map[int]*flash.Device{
			0:       deviceWith(t, nil, nil),
			6:       deviceWith(t, sector(6, 0, batch(put(8, 3, 4))), nil),
			7:       deviceWith(t, sector(6, 0), sector(7, 0, batch(put(8, 3, 4)), filled(1000))),
			1 << 31: deviceWith(t, nil, sector(1<<31, 0, batch(put(8, 3, 4)), filled(1000))),
		} {
			what := fmt.Sprintf("%s in generation %d", name, generation)
			s := open(t, d, 1)
			l := s.All()
			takeDown(t, d)
			before := d.Clone()
			checkStore(t, what+", before", s, generation, l...)
			checkErrno(t, what, update(s), api.ErrPower)
			checkSame(t, what, d, before)
			checkEnded(t, what, s, d)
			d.Restore()
			checkEnded(t, what+", after Restore", s, d)
			checkStore(t, what+", opened again", open(t, d, 1), generation, l...)
		}
	}
}

// P6.5: after a failure at the first, a middle and the last step, whatever the store is asked first.
func TestStoreThatHasEnded(t *testing.T) {
	asked := []func(t *testing.T, s *settings.Store){
		func(t *testing.T, s *settings.Store) { checkErrno(t, "Put", s.Put(1, []byte{2}), api.ErrPower) },
		func(t *testing.T, s *settings.Store) { checkErrno(t, "Delete", s.Delete(8), api.ErrPower) },
		func(t *testing.T, s *settings.Store) { checkErrno(t, "Update", s.Update(nil), api.ErrPower) },
		func(t *testing.T, s *settings.Store) {
			if b, ok := s.Get(8); len(b) != 0 || ok {
				t.Errorf("Get is % X, %t", b, ok)
			}
		},
		func(t *testing.T, s *settings.Store) {
			if l := s.All(); len(l) != 0 {
				t.Errorf("All is %v", l)
			}
		},
		func(t *testing.T, s *settings.Store) {
			if g := s.Generation(); g != 0 {
				t.Errorf("Generation is %d", g)
			}
		},
	}
	for _, low := range [][]byte{nil, sector(6, 0, batch(put(8, 3, 4))), sector(6, 0, filled(1016)), make([]byte, size)} {
		for _, high := range [][]byte{nil, sector(5, 0, batch(put(8)))} {
			for step := 1; step <= 5; step++ {
				for _, restored := range []bool{false, true} {
					for i, ask := range asked {
						d := deviceWith(t, low, high)
						s := open(t, d, 1)
						d.Arm(step, 0)
						checkErrno(t, "the failing Put", s.Put(8, []byte{9, 9, 9}), api.ErrPower)
						if restored {
							d.Restore()
						}
						ask(t, s)
						checkEnded(t, fmt.Sprintf("step %d, restored: %t, asked %d", step, restored, i), s, d)
					}
				}
			}
		}
	}
}

// P6.5: a failure that the store does not meet does not end it.
func TestFailuresBetweenUpdates(t *testing.T) {
	d := deviceWith(t, sector(6, 0, batch(put(8, 3, 4))), nil)
	s := open(t, d, 1)
	takeDown(t, d)
	checkStore(t, "down", s, 6, put(8, 3, 4))
	d.Restore()
	checkErrno(t, "Put", s.Put(9, []byte{9}), api.OK)
	checkStore(t, "restored", s, 6, put(8, 3, 4), put(9, 9))
	d.Arm(5, 0)
	checkErrno(t, "Delete of four bytes", s.Delete(8), api.OK)
	checkStore(t, "armed", s, 6, put(9, 9))
	checkErrno(t, "Delete with a failure at its first step", s.Delete(9), api.ErrPower)
	checkEnded(t, "failed", s, d)
}

// P6.5: two stores of a device end one by one.
func TestStoresOfOneDevice(t *testing.T) {
	d := newDevice(t, 5, size)
	low, high := open(t, d, 0), open(t, d, 3)
	checkErrno(t, "Put", low.Put(1, []byte{1}), api.OK)
	checkErrno(t, "Put", high.Put(2, []byte{2}), api.OK)
	d.Arm(2, 0x55)
	checkErrno(t, "the failing Put", low.Put(3, []byte{3}), api.ErrPower)
	checkEnded(t, "the store that failed", low, d)
	checkStore(t, "the other store", high, 1, put(2, 2))
	d.Restore()
	checkErrno(t, "Put after Restore", high.Put(4, []byte{4}), api.OK)
	checkStore(t, "the other store", high, 1, put(2, 2), put(4, 4))
	checkEnded(t, "the store that failed", low, d)
	low = open(t, d, 0)
	checkStore(t, "opened again", low, 1, put(1, 1))
	checkErrno(t, "Put of the store that was opened again", low.Put(3, []byte{3}), api.OK)
	checkStore(t, "opened again", low, 2, put(1, 1), put(3, 3))
	checkStore(t, "the other store", high, 1, put(2, 2), put(4, 4))
}

// The example of DOC.md: a failure at the second byte of an update leaves the settings as they were.
func TestFailureAtSecondByte(t *testing.T) {
	for _, torn := range torns {
		d := newDevice(t, 2, size)
		s := open(t, d, 0)
		checkErrno(t, "Put", s.Put(1, []byte{1}), api.OK)
		d.Arm(2, torn)
		checkErrno(t, "the failing Put", s.Put(1, []byte{2}), api.ErrPower)
		d.Restore()
		s = open(t, d, 0)
		checkStore(t, "opened again", s, 1, put(1, 1))
		checkErrno(t, "the next Put", s.Put(1, []byte{2}), api.OK)
		// The tail is not erased any more, so that the other sector is written.
		checkStore(t, "the next Put", s, 2, put(1, 2))
	}
}

// Consequences: a batch of which nothing can be seen leaves the tail as it was.
func TestFailureWithoutTrace(t *testing.T) {
	d := newDevice(t, 2, size)
	checkErrno(t, "Put", open(t, d, 0).Put(1, []byte{1}), api.OK)
	for range 3 {
		s := open(t, d, 0)
		d.Arm(1, 0xFF)
		checkErrno(t, "the failing Put", s.Put(1, []byte{2}), api.ErrPower)
		d.Restore()
	}
	s := open(t, d, 0)
	checkErrno(t, "the next Put", s.Put(1, []byte{2}), api.OK)
	checkStore(t, "the next Put", s, 1, put(1, 2))
	want := sector(1, 0, batch(put(1, 1)), batch(put(1, 2)))
	if b := content(t, d); !bytes.Equal(b[:len(want)], want) {
		t.Errorf("the device begins with % X, not % X", b[:len(want)], want)
	}
}

// Consequences: all that can be torn at each step of an update that writes batches, and of one that changes the sector.
func TestAllTornBytes(t *testing.T) {
	changes := []api.Setting{put(2), put(0x80, 0x1C, 0), remove(1)}
	before := []api.Setting{put(1, 1), put(2, 2)}
	after := applied(before, changes)
	for name, d := range map[string]*flash.Device{
		"a batch":                        deviceWith(t, sector(6, 0, batch(before...)), sector(5, 0, batch(put(3, 3)))),
		"a change of the sector":         deviceWith(t, sector(5, 0, batch(put(3, 3))), sector(6, 0, batch(before...), []byte{0})),
		"a change to an erased sector":   deviceWith(t, nil, sector(6, 0, batch(before...), []byte{0})),
		"a change to an equal sector":    deviceWith(t, sector(6, 0, batch(before...), []byte{0}), sector(6, 0, batch(put(3, 3)))),
		"a change to generation 0":       deviceWith(t, sector(6, 0, batch(before...), []byte{0}), sector(0, 0, batch(put(3, 3)))),
		"a change to a great sector":     deviceWith(t, sector(6, 0, batch(before...), []byte{0}), sector(1<<31+1, 0, batch(put(3, 3)))),
		"a change to one without status": deviceWith(t, sector(6, 0, batch(before...), []byte{0}), sector(1<<31, 1, batch(put(3, 3)))),
	} {
		steps := stepsOf(t, d, changes)
		for step := 1; step <= steps; step++ {
			for torn := range 256 {
				c := d.Clone()
				s := open(t, c, 1)
				c.Arm(step, uint8(torn))
				checkErrno(t, name, s.Update(changes), api.ErrPower)
				c.Restore()
				what := fmt.Sprintf("%s, failing at step %d with torn %02X", name, step, torn)
				s = open(t, c, 1)
				l := s.All()
				if !equalSettings(l, before) && !(equalSettings(l, after) && step == steps) {
					t.Errorf("%s: the settings are %v", what, l)
				}
				checkErrno(t, what+": the next update", s.Update(changes), api.OK)
				checkStore(t, what+", updated", s, s.Generation(), after...)
				checkStore(t, what+", updated and opened again", open(t, c, 1), s.Generation(), after...)
			}
		}
	}
}

// stepsOf returns the number of steps of an update.
func stepsOf(t *testing.T, d *flash.Device, l []api.Setting) int {
	t.Helper()
	c := d.Clone()
	checkErrno(t, "Update", open(t, c, 1).Update(l), api.OK)
	return c.Steps() - d.Steps()
}

// Consequences: without failures the wear of the two sectors never differs by more than 1, and an update erases at most one of them.
func TestWear(t *testing.T) {
	d := newDevice(t, 5, size)
	s := open(t, d, 2)
	l := several(10, 32, 28)
	old := d.Wear()
	for i := range 200 {
		if i%3 == 0 {
			s = open(t, d, 2)
		}
		checkErrno(t, "Update", s.Update(l[i%7:]), api.OK)
		wear := d.Wear()
		erasures := 0
		for j := range wear {
			erasures += wear[j] - old[j]
		}
		if erasures > 1 || wear[2]-wear[3] > 1 || wear[3]-wear[2] > 1 {
			t.Errorf("update %d: the wear was %v and is %v", i, old, wear)
		}
		old = wear
	}
	// The first two generations need no erasure, and each update a generation of its own.
	if want := []int{0, 0, 99, 99, 0}; !slices.Equal(old, want) || s.Generation() != 200 {
		t.Errorf("the wear is %v, not %v, in generation %d", old, want, s.Generation())
	}
}
