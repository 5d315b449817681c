package flash_test

import (
	"bytes"
	"testing"

	"baseboard/api"
	"baseboard/flash"
)

// devices returns devices that are new, used, armed and down; the last two are worn and programmed too.
func devices(t *testing.T) []*flash.Device {
	t.Helper()
	used := numbered(t)
	checkErase(t, used, 1, api.OK)
	checkProgram(t, used, 100, []byte{1, 2, 3}, api.OK)
	armed := numbered(t)
	checkErase(t, armed, 0, api.OK)
	armed.Arm(4, 0x3C)
	checkProgram(t, armed, 5, []byte{9}, api.OK)
	down := numbered(t)
	checkErase(t, down, 0, api.OK)
	down.Arm(1, 0x81)
	checkErase(t, down, 1, api.ErrPower)
	return []*flash.Device{newDevice(t, 2, 64), used, armed, down}
}

// P5.7
func TestCloneIsEqual(t *testing.T) {
	for i, d := range devices(t) {
		before, left := picture(t, d), stepsLeft(d, 10)
		c := d.Clone()
		if c == d {
			t.Errorf("device %d is its own copy", i)
		}
		for _, x := range []*flash.Device{d, c} {
			if got := picture(t, x); got != before {
				t.Errorf("device %d: %s, not %s", i, got, before)
			}
			if n := stepsLeft(x, 10); n != left {
				t.Errorf("device %d: the power fails at step %d, not %d", i, n, left)
			}
		}
	}
}

// P5.7: the step and the torn bits of what a device is armed with.
func TestCloneOfArmedDevice(t *testing.T) {
	d := newDevice(t, 2, 64)
	d.Arm(4, 0x3C)
	checkProgram(t, d, 0, []byte{7}, api.OK)
	c := d.Clone()
	checkProgram(t, d, 1, []byte{6}, api.OK)
	checkProgram(t, c, 10, []byte{0, 0, 0, 0}, api.ErrPower)
	checkContent(t, c, map[int]byte{0: 7, 10: 0, 11: 0, 12: 0x3C})
	checkCounts(t, c, true, 4, 0, 0)
	checkCounts(t, d, false, 2, 0, 0)
	c.Restore()
	c.Arm(1, 0)
	checkProgram(t, d, 20, []byte{0, 0, 0, 0}, api.ErrPower)
	checkContent(t, d, map[int]byte{0: 7, 1: 6, 20: 0, 21: 0x3C})
	checkCounts(t, d, true, 4, 0, 0)
	checkCounts(t, c, false, 4, 0, 0)
	if n := stepsLeft(c, 5); n != 1 {
		t.Errorf("the power of the copy fails at step %d", n)
	}
}

// P5.7
func TestCloneOfDeviceThatIsDown(t *testing.T) {
	d := newDown(t, 2, 64)
	c := d.Clone()
	checkCounts(t, c, true, 1, 0, 0)
	checkRead(t, c, 0, 1, nil, api.ErrPower)
	c.Restore()
	checkCounts(t, c, false, 1, 0, 0)
	checkCounts(t, d, true, 1, 0, 0)
	checkRead(t, d, 0, 1, nil, api.ErrPower)
	checkProgram(t, c, 0, []byte{3, 4}, api.OK)
	checkErase(t, c, 1, api.OK)
	checkContent(t, c, map[int]byte{0: 3, 1: 4})
	checkContent(t, d, map[int]byte{0: 0x0F})
	d.Restore()
	checkProgram(t, d, 5, []byte{5}, api.OK)
	checkContent(t, c, map[int]byte{0: 3, 1: 4})
	checkContent(t, d, map[int]byte{0: 0x0F, 5: 5})
	checkCounts(t, c, false, 4, 0, 1)
	checkCounts(t, d, false, 2, 0, 0)
}

// P5.7: each change of one device leaves the other one as it was.
func TestCloneAndOriginalAreApart(t *testing.T) {
	changes := map[string]func(*flash.Device){
		"Program":         func(d *flash.Device) { d.Program(0, make([]byte, 128)) },
		"Erase":           func(d *flash.Device) { d.Erase(0); d.Erase(1) },
		"Arm":             func(d *flash.Device) { d.Arm(2, 0xFF) },
		"Arm with 0":      func(d *flash.Device) { d.Arm(0, 0) },
		"Restore":         func(d *flash.Device) { d.Restore() },
		"failing Program": func(d *flash.Device) { d.Restore(); d.Arm(5, 0); d.Program(0, make([]byte, 128)) },
		"failing Erase":   func(d *flash.Device) { d.Restore(); d.Arm(1, 0xFF); d.Erase(0) },
	}
	for name, change := range changes {
		for i := range devices(t) {
			for _, changesCopy := range []bool{false, true} {
				d := devices(t)[i]
				left := stepsLeft(d, 10)
				kept, changed := d.Clone(), d
				if changesCopy {
					kept, changed = changed, kept
				}
				before := picture(t, kept)
				change(changed)
				if after := picture(t, kept); after != before {
					t.Errorf("%s, device %d, of the copy: %t: %s became %s", name, i, changesCopy, before, after)
				}
				if n := stepsLeft(kept, 10); n != left {
					t.Errorf("%s, device %d, of the copy: %t: the power fails at step %d, not %d", name, i, changesCopy, n, left)
				}
			}
		}
	}
}

// P5.7: the same calls of both lead to the same.
func TestCloneOfClone(t *testing.T) {
	for i, d := range devices(t) {
		l := []*flash.Device{d, d.Clone(), d.Clone().Clone()}
		for _, x := range l {
			x.Program(60, bytes.Repeat([]byte{0x42}, 6))
			x.Erase(0)
		}
		want := picture(t, l[0])
		for _, x := range l[1:] {
			if got := picture(t, x); got != want {
				t.Errorf("device %d: %s, not %s", i, got, want)
			}
		}
	}
}
