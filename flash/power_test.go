package flash_test

import (
	"bytes"
	"math"
	"testing"

	"baseboard/api"
	"baseboard/flash"
)

// The chapter's second example.
func TestSecondExample(t *testing.T) {
	d := newDevice(t, 2, 64)
	d.Arm(3, 0xFF)
	checkProgram(t, d, 0, []byte{1, 2, 3, 4}, api.ErrPower)
	checkContent(t, d, map[int]byte{0: 1, 1: 2})
	checkCounts(t, d, true, 3, 0, 0)
}

// P5.5
func TestFailureWithinProgram(t *testing.T) {
	old := []byte{0xFF, 0xF3, 0x55, 0x0F, 0xC0}
	b := []byte{0x0F, 0x3C, 0xAA, 0xFF, 0x5A}
	for _, torn := range []uint8{0, 0xFF, 0x01, 0x80, 0x33, 0xAA, 0x7E} {
		for failing := 1; failing <= len(b); failing++ {
			for _, at := range []int{0, 7, 62, 123} {
				d := newDevice(t, 2, 64)
				checkProgram(t, d, at, old, api.OK)
				d.Arm(failing, torn)
				checkProgram(t, d, at, b, api.ErrPower)
				set := map[int]byte{}
				for i, x := range old {
					switch {
					case i < failing-1:
						x &= b[i]
					case i == failing-1:
						x &= b[i] | torn
					}
					set[at+i] = x
				}
				checkContent(t, d, set)
				checkCounts(t, d, true, len(old)+failing, 0, 0)
			}
		}
	}
}

// P5.5: all bytes over all bytes with several that are torn.
func TestTornBytes(t *testing.T) {
	for _, torn := range []uint8{0, 0xFF, 0x0F, 0x81} {
		for old := range 256 {
			d := newDevice(t, 4, 64)
			checkProgram(t, d, 0, bytes.Repeat([]byte{byte(old)}, 256), api.OK)
			var want []byte
			for x := range 256 {
				d.Arm(1, torn)
				checkProgram(t, d, x, []byte{byte(x)}, api.ErrPower)
				d.Restore()
				want = append(want, byte(old)&(byte(x)|torn))
			}
			checkRead(t, d, 0, 256, want, api.OK)
		}
	}
}

// P5.5
func TestFailureAtErase(t *testing.T) {
	old := []byte{0, 0x0F, 0xA5, 0x80, 0x01, 0xFF}
	for _, torn := range []uint8{0, 0xFF, 0x01, 0x80, 0x33, 0xAA, 0x7E} {
		for sector := range 3 {
			d := newDevice(t, 3, 64)
			checkProgram(t, d, 0, bytes.Repeat(old, 32), api.OK)
			d.Arm(1, torn)
			checkErase(t, d, sector, api.ErrPower)
			want := bytes.Repeat(old, 32)
			for i := range 64 {
				want[64*sector+i] |= torn
			}
			if b := content(t, d); !bytes.Equal(b, want) {
				t.Errorf("torn %02X, sector %d: % X, not % X", torn, sector, b, want)
			}
			wear := []int{0, 0, 0}
			wear[sector] = 1
			checkCounts(t, d, true, 193, wear...)
		}
	}
}

// P5.5: the steps count over operations of both kinds.
func TestFailureInLaterOperation(t *testing.T) {
	const operations = 4
	for failing := 1; failing <= 9; failing++ {
		d := newDevice(t, 2, 64)
		checkProgram(t, d, 60, make([]byte, 8), api.OK)
		d.Arm(failing, 0)
		var got []api.Errno
		for range operations {
			got = append(got, d.Program(0, []byte{1, 2, 4}), d.Erase(1))
		}
		down := false
		for i, e := range got {
			want := api.OK
			// After three steps of a Program there is one of an Erase.
			if last := 4*(i/2) + 3 + i%2; last >= failing {
				want = api.ErrPower
			}
			down = down || want == api.ErrPower
			if e != want {
				t.Errorf("armed with %d: operation %d returns error %d, not %d", failing, i, e, want)
			}
		}
		if d.Down() != down || d.Steps() != 8+failing {
			t.Errorf("armed with %d: down is %t after %d steps", failing, d.Down(), d.Steps())
		}
	}
}

// P5.5: an operation with fewer steps does not fail, and uses up as many as it has.
func TestArmWithMoreStepsThanOperation(t *testing.T) {
	d := newDevice(t, 2, 64)
	d.Arm(10, 0xFF)
	checkProgram(t, d, 0, make([]byte, 5), api.OK)
	checkErase(t, d, 1, api.OK)
	checkRead(t, d, 0, 6, []byte{0, 0, 0, 0, 0, 0xFF}, api.OK)
	checkCounts(t, d, false, 6, 0, 1)
	if n := stepsLeft(d, 20); n != 4 {
		t.Errorf("the power fails at step %d", n)
	}
	checkProgram(t, d, 10, make([]byte, 3), api.OK)
	checkErase(t, d, 0, api.ErrPower)
	checkCounts(t, d, true, 10, 1, 1)
	checkContent(t, d, nil)
}

// P5.5
func TestArmWithManySteps(t *testing.T) {
	for _, steps := range []int{129, 1 << 31, 1<<32 + 1, math.MaxInt - 1, math.MaxInt} {
		d := newDevice(t, 2, 64)
		d.Arm(steps, 0)
		checkProgram(t, d, 0, make([]byte, 128), api.OK)
		checkCounts(t, d, false, 128, 0, 0)
	}
}

// P5.5: with steps below 1 the device is not armed, also if it was.
func TestArmWithoutSteps(t *testing.T) {
	for _, steps := range []int{0, -1, -2, -1 << 32, math.MinInt + 1, math.MinInt} {
		for _, before := range []int{0, 1, 5, math.MaxInt} {
			d := newDevice(t, 2, 64)
			d.Arm(before, 0xFF)
			d.Arm(steps, 0xFF)
			checkProgram(t, d, 0, make([]byte, 128), api.OK)
			checkErase(t, d, 0, api.OK)
			checkCounts(t, d, false, 129, 1, 0)
		}
	}
}

// P5.5
func TestSecondArmReplacesFirst(t *testing.T) {
	for _, x := range []struct{ first, done, second int }{{1, 0, 3}, {3, 0, 1}, {5, 2, 5}, {5, 4, 1}, {5, 4, 9}, {2, 1, 2}, {math.MaxInt, 3, 2}} {
		d := newDevice(t, 1, 64)
		d.Arm(x.first, 0xFF)
		checkProgram(t, d, 0, bytes.Repeat([]byte{0xFF}, x.done), api.OK)
		d.Arm(x.second, 0x0F)
		if n := stepsLeft(d, 20); n != x.second {
			t.Errorf("%v: the power fails at step %d", x, n)
		}
		checkProgram(t, d, 10, make([]byte, 20), api.ErrPower)
		set := map[int]byte{10 + x.second - 1: 0x0F}
		for i := range x.second - 1 {
			set[10+i] = 0
		}
		checkContent(t, d, set)
	}
}

// P5.5
func TestArmOnDeviceThatIsDown(t *testing.T) {
	for _, steps := range []int{1, 2, 5, 0, -1, math.MaxInt, math.MinInt} {
		d := newDown(t, 2, 64)
		d.Arm(steps, 0xFF)
		checkCounts(t, d, true, 1, 0, 0)
		checkProgram(t, d, 1, []byte{0}, api.ErrPower)
		checkContent(t, d, map[int]byte{0: 0x0F})
		d.Restore()
		checkProgram(t, d, 1, make([]byte, 127), api.OK)
		checkErase(t, d, 0, api.OK)
		checkCounts(t, d, false, 129, 1, 0)
	}
}

// P5.5: the device is not armed any more after a failure.
func TestOneFailureForEachArm(t *testing.T) {
	d := newDevice(t, 2, 64)
	for i := range 5 {
		d.Arm(i+1, 0)
		checkProgram(t, d, 20*i, make([]byte, 10), api.ErrPower)
		d.Restore()
		checkProgram(t, d, 20*i+10, make([]byte, 10), api.OK)
		if n := stepsLeft(d, 30); n != 0 {
			t.Errorf("the power fails once more, at step %d", n)
		}
	}
	checkCounts(t, d, false, 15+50, 0, 0)
}

// P5.2 to P5.4, R4, R5: ErrPower comes before ErrRange, and nothing changes.
func TestOperationsOnDeviceThatIsDown(t *testing.T) {
	d := newDown(t, 2, 64)
	before := picture(t, d)
	for _, at := range []int{math.MinInt, -1, 0, 5, 127, 128, 129, math.MaxInt} {
		for _, n := range []int{math.MinInt, -1, 0, 1, 128, 129, math.MaxInt} {
			checkRead(t, d, at, n, nil, api.ErrPower)
		}
		for _, b := range [][]byte{nil, {}, {0}, make([]byte, 128), make([]byte, 129)} {
			checkProgram(t, d, at, b, api.ErrPower)
		}
	}
	for _, sector := range []int{math.MinInt, -1, 0, 1, 2, math.MaxInt} {
		checkErase(t, d, sector, api.ErrPower)
	}
	if after := picture(t, d); after != before {
		t.Errorf("%s became %s", before, after)
	}
	checkCounts(t, d, true, 1, 0, 0)
}

// P5.6
func TestRestoreOfDeviceThatIsDown(t *testing.T) {
	d := newDown(t, 2, 64)
	checkContent(t, d, map[int]byte{0: 0x0F})
	d.Restore()
	checkCounts(t, d, false, 1, 0, 0)
	checkContent(t, d, map[int]byte{0: 0x0F})
	checkRead(t, d, 0, 2, []byte{0x0F, 0xFF}, api.OK)
	checkProgram(t, d, 0, []byte{0xF5, 0x11}, api.OK)
	checkErase(t, d, 1, api.OK)
	checkContent(t, d, map[int]byte{0: 0x05, 1: 0x11})
	checkCounts(t, d, false, 4, 0, 1)
}

// P5.6
func TestRestoreOfArmedDevice(t *testing.T) {
	for _, steps := range []int{1, 2, 100, math.MaxInt} {
		d := numbered(t)
		d.Arm(steps, 0)
		before := picture(t, d)
		d.Restore()
		if after := picture(t, d); after != before {
			t.Errorf("%s became %s", before, after)
		}
		if n := stepsLeft(d, 200); n != 0 {
			t.Errorf("armed with %d: the power fails at step %d", steps, n)
		}
	}
}

// P5.6
func TestRestoreOfDeviceThatIsUp(t *testing.T) {
	d := numbered(t)
	checkErase(t, d, 1, api.OK)
	before := picture(t, d)
	d.Restore()
	d.Restore()
	if after := picture(t, d); after != before {
		t.Errorf("%s became %s", before, after)
	}
	d.Arm(2, 0)
	if n := stepsLeft(d, 5); n != 2 {
		t.Errorf("armed after Restore, the power fails at step %d", n)
	}
}

// P5.6
func TestStepsAndWearOverFailures(t *testing.T) {
	d := newDevice(t, 3, 64)
	type operation struct {
		run   func(d *flash.Device) api.Errno
		steps int
		wear  int // the sector that is erased, or -1
	}
	program := func(n int) operation {
		return operation{func(d *flash.Device) api.Errno { return d.Program(0, make([]byte, n)) }, n, -1}
	}
	erase := func(sector int) operation {
		return operation{func(d *flash.Device) api.Errno { return d.Erase(sector) }, 1, sector}
	}
	steps, wear := 0, []int{0, 0, 0}
	for i, o := range []operation{program(7), erase(2), erase(0), program(1), erase(2), program(64), erase(1)} {
		for _, failing := range []int{1, o.steps, 0} {
			d.Arm(failing, uint8(17*i))
			want, done := api.ErrPower, failing
			if failing == 0 {
				want, done = api.OK, o.steps
			}
			if e := o.run(d); e != want {
				t.Errorf("operation %d returns error %d, not %d", i, e, want)
			}
			steps += done
			if o.wear >= 0 {
				wear[o.wear]++
			}
			checkCounts(t, d, want == api.ErrPower, steps, wear...)
			d.Restore()
			checkCounts(t, d, false, steps, wear...)
		}
	}
}

// P5.5: what is only asked is no step.
func TestQuestionsAreNoSteps(t *testing.T) {
	d := numbered(t)
	d.Arm(1, 0)
	for range 10 {
		d.Read(0, 128)
		d.Sectors()
		d.Size()
		d.Down()
		d.Steps()
		d.Wear()
		d.Clone()
	}
	checkCounts(t, d, false, 128, 0, 0)
	checkErase(t, d, 0, api.ErrPower)
}
