package settings_test

import (
	"bytes"
	"fmt"
	"slices"
	"testing"

	"baseboard/api"
	"baseboard/flash"
	"baseboard/settings"
)

const size = 1024 // bytes of a sector

// torns are what the tests tear failing steps with.
var torns = []uint8{0, 0xFF, 0x01, 0x80, 0x55, 0x1C}

func newDevice(t *testing.T, sectors, size int) *flash.Device {
	t.Helper()
	d, e := flash.New(sectors, size)
	if e != api.OK {
		t.Fatalf("New of %d sectors of %d bytes returns error %d", sectors, size, e)
	}
	return d
}

func program(t *testing.T, d *flash.Device, at int, b ...byte) {
	t.Helper()
	if e := d.Program(at, b); e != api.OK {
		t.Fatalf("Program of % X at %d returns error %d", b, at, e)
	}
}

// newDown returns a device that is down, with all bytes FF hex.
func newDown(t *testing.T, sectors, size int) *flash.Device {
	t.Helper()
	d := newDevice(t, sectors, size)
	takeDown(t, d)
	return d
}

// takeDown takes a device down without a change of its bytes.
func takeDown(t *testing.T, d *flash.Device) {
	t.Helper()
	d.Arm(1, 0xFF)
	if e := d.Program(0, []byte{0xFF}); e != api.ErrPower || !d.Down() {
		t.Fatalf("the power does not fail: error %d", e)
	}
}

// deviceWith returns a device of four sectors, the inner two of which begin with the given bytes. The outer two have the bytes 5A hex; the last one begins with zeros, with which a batch that is cut off could go on.
func deviceWith(t *testing.T, low, high []byte) *flash.Device {
	t.Helper()
	d := newDevice(t, 4, size)
	outer := bytes.Repeat([]byte{0x5A}, size)
	program(t, d, 0, outer...)
	program(t, d, size, low...)
	program(t, d, 2*size, high...)
	clear(outer[:40])
	program(t, d, 3*size, outer...)
	return d
}

// sector returns the first bytes of a sector.
func sector(generation uint32, status byte, batches ...[]byte) []byte {
	b := []byte{byte(generation), byte(generation >> 8), byte(generation >> 16), byte(generation >> 24), status}
	return append(b, slices.Concat(batches...)...)
}

// batch returns a batch with a status 00.
func batch(l ...api.Setting) []byte {
	b := []byte{byte(len(l))}
	for _, c := range l {
		if c.Delete {
			b = append(b, c.Key, 0x80)
		} else {
			b = append(append(b, c.Key, byte(len(c.Value))), c.Value...)
		}
	}
	return append(b, 0)
}

func put(key uint8, value ...byte) api.Setting { return api.Setting{Key: key, Value: value} }

func remove(key uint8) api.Setting { return api.Setting{Key: key, Delete: true} }

// several returns settings with n keys from a key on, each with a value of its own of so many bytes.
func several(key uint8, n, length int) []api.Setting {
	var l []api.Setting
	for range n {
		l = append(l, put(key, bytes.Repeat([]byte{key ^ 0xA5}, length)...))
		key++
	}
	return l
}

// filled returns batches of n bytes in all, at least 4, which lead to the settings of leftBy(n).
func filled(n int) []byte {
	return append(bytes.Repeat(batch(remove(9)), n/4-1), batch(leftBy(n))...)
}

func leftBy(n int) api.Setting { return put(2, bytes.Repeat([]byte{0xEE}, n%4)...) }

func deletions(key uint8, n int) []api.Setting {
	var l []api.Setting
	for range n {
		l = append(l, remove(key))
		key++
	}
	return l
}

// applied returns what settings are after changes, ascending by key.
func applied(l, changes []api.Setting) []api.Setting {
	var values [256]*api.Setting
	for _, c := range slices.Concat(l, changes) {
		values[c.Key] = &c
	}
	var after []api.Setting
	for _, c := range values {
		if c != nil && !c.Delete {
			after = append(after, *c)
		}
	}
	return after
}

func open(t *testing.T, d *flash.Device, first int) *settings.Store {
	t.Helper()
	s, e := settings.Open(d, first)
	if s == nil || e != api.OK {
		t.Fatalf("Open at sector %d is %p, error %d", first, s, e)
	}
	return s
}

// content returns all bytes of a device, also of one that is down.
func content(t *testing.T, d *flash.Device) []byte {
	t.Helper()
	c := d.Clone()
	c.Restore()
	b, e := c.Read(0, c.Sectors()*c.Size())
	if e != api.OK {
		t.Fatalf("the bytes cannot be read, error %d", e)
	}
	return b
}

// checkSame checks that two devices are equal in all that can be seen without a change of them.
func checkSame(t *testing.T, what string, d, want *flash.Device) {
	t.Helper()
	if got, wanted := content(t, d), content(t, want); !bytes.Equal(got, wanted) {
		i := 0
		for got[i] == wanted[i] {
			i++
		}
		t.Errorf("%s: the first byte that differs, at %d of sector %d, is %02X, not %02X", what, i%size, i/size, got[i], wanted[i])
	}
	if d.Down() != want.Down() || d.Steps() != want.Steps() || !slices.Equal(d.Wear(), want.Wear()) {
		t.Errorf("%s: down is %t, the steps are %d, the wear is %v, not %t, %d, %v", what, d.Down(), d.Steps(), d.Wear(), want.Down(), want.Steps(), want.Wear())
	}
}

// stepsLeft returns the number of the step at which the power of a device fails, or 0 if it does not within limit steps.
func stepsLeft(d *flash.Device, limit int) int {
	c := d.Clone()
	for n := 1; n <= limit; n++ {
		if c.Program(0, []byte{0xFF}) == api.ErrPower {
			return n
		}
	}
	return 0
}

func equalSettings(a, b []api.Setting) bool {
	return slices.EqualFunc(a, b, func(x, y api.Setting) bool {
		return x.Key == y.Key && bytes.Equal(x.Value, y.Value) && x.Delete == y.Delete
	})
}

// checkStore checks what can be seen of a store; want is ascending by key.
func checkStore(t *testing.T, what string, s *settings.Store, generation int, want ...api.Setting) {
	t.Helper()
	if g := s.Generation(); g != generation {
		t.Errorf("%s: the generation is %d, not %d", what, g, generation)
	}
	if l := s.All(); !equalSettings(l, want) {
		t.Errorf("%s: the settings are %v, not %v", what, l, want)
	}
	values := map[uint8][]byte{}
	for _, x := range want {
		values[x.Key] = x.Value
	}
	for key := range 256 {
		value, there := values[uint8(key)]
		if b, ok := s.Get(uint8(key)); ok != there || !bytes.Equal(b, value) {
			t.Errorf("%s: the value of %d is % X, %t, not % X, %t", what, key, b, ok, value, there)
		}
	}
}

// checkEnded checks that a store has ended, whatever it is asked.
func checkEnded(t *testing.T, what string, s *settings.Store, d *flash.Device) {
	t.Helper()
	before := d.Clone()
	checkStore(t, what, s, 0)
	for i, e := range []api.Errno{
		s.Put(7, []byte{1}), s.Put(7, make([]byte, 29)), s.Delete(7), s.Update(nil), s.Update([]api.Setting{}),
		s.Update(several(0, 3, 5)), s.Update(several(0, 33, 1)), s.Update([]api.Setting{put(1), put(1)}),
	} {
		if e != api.ErrPower {
			t.Errorf("%s: call %d of a store that has ended returns error %d", what, i, e)
		}
	}
	checkStore(t, what, s, 0)
	checkSame(t, what+": a store that has ended", d, before)
}

// operation is an operation on a device.
type operation struct {
	erase bool
	at    int // the sector that is erased, or the offset of the bytes
	bytes []byte
}

func programs(at int, b ...byte) operation { return operation{at: at, bytes: b} }

func erases(sector int) operation { return operation{erase: true, at: sector} }

// runAll runs operations one after the other, up to the first one that fails.
func runAll(d *flash.Device, l []operation) api.Errno {
	for _, o := range l {
		e := api.OK
		if o.erase {
			e = d.Erase(o.at)
		} else {
			e = d.Program(o.at, o.bytes)
		}
		if e != api.OK {
			return e
		}
	}
	return api.OK
}

func countSteps(l []operation) int {
	n := 0
	for _, o := range l {
		n += len(o.bytes)
		if o.erase {
			n++
		}
	}
	return n
}

// world is a device with a store that stays open on it.
type world struct {
	d     *flash.Device
	first int
	s     *settings.Store
}

func newWorld(t *testing.T, d *flash.Device, first int) *world {
	t.Helper()
	return &world{d, first, open(t, d, first)}
}

// update makes an update and checks that it is exactly the given operations, one after the other. Of stores that are opened on copies of the device it checks this also for power failures at each of their steps.
func (w *world) update(t *testing.T, what string, l []api.Setting, want ...operation) {
	t.Helper()
	old, before := w.d.Clone(), w.s.All()
	if e := w.s.Update(l); e != api.OK {
		t.Fatalf("%s: Update returns error %d", what, e)
	}
	after := w.s.All()
	plain := old.Clone()
	runAll(plain, want)
	checkSame(t, what, w.d, plain)

	steps := countSteps(want)
	again := old.Clone()
	s := open(t, again, w.first)
	again.Arm(steps+1, 0)
	if e := s.Update(l); e != api.OK {
		t.Errorf("%s: Update with a failure at the step after it returns error %d", what, e)
	}
	checkSame(t, what+", of a store that was opened again", again, plain)
	for step := 1; step <= steps; step++ {
		for _, torn := range torns {
			name := fmt.Sprintf("%s, failing at step %d with torn %02X", what, step, torn)
			w.failingUpdate(t, name, old, l, want, step, torn, before, after)
			if t.Failed() {
				t.FailNow()
			}
		}
	}
}

func (w *world) failingUpdate(t *testing.T, what string, old *flash.Device, l []api.Setting, want []operation, step int, torn uint8, before, after []api.Setting) {
	t.Helper()
	d, plain := old.Clone(), old.Clone()
	s := open(t, d, w.first)
	d.Arm(step, torn)
	if e := s.Update(l); e != api.ErrPower {
		t.Errorf("%s: Update returns error %d", what, e)
	}
	plain.Arm(step, torn)
	runAll(plain, want)
	checkSame(t, what, d, plain)
	if s.Generation() != 0 || len(s.All()) != 0 || s.Update(nil) != api.ErrPower {
		t.Errorf("%s: the store has not ended", what)
	}
	d.Restore()
	again := open(t, d, w.first).All()
	// The last step is done completely when nothing of it is torn.
	done := step == countSteps(want) && torn == 0
	if done && !equalSettings(again, after) || !done && !equalSettings(again, before) {
		t.Errorf("%s: afterwards the settings are %v", what, again)
	}
}

// check checks the store, and another one that is opened on a copy of the device.
func (w *world) check(t *testing.T, what string, generation int, want ...api.Setting) {
	t.Helper()
	checkStore(t, what, w.s, generation, want...)
	checkStore(t, what+", opened again", open(t, w.d.Clone(), w.first), generation, want...)
}
