package flash_test

import (
	"bytes"
	"math/rand"
	"slices"
	"testing"

	"baseboard/api"
	"baseboard/flash"
)

// R2
func TestProgramNeitherChangesNorKeepsBytes(t *testing.T) {
	for _, failing := range []int{0, 1, 3, 4} {
		for _, at := range []int{0, 60, 124, 125, -1} {
			d := newDevice(t, 2, 64)
			checkProgram(t, d, 0, bytes.Repeat([]byte{0xE7}, 128), api.OK)
			array := []byte{0x12, 0x34, 0xFF, 0x81, 0xAA, 0xAA}
			before := slices.Clone(array)
			d.Arm(failing, 0x18)
			d.Program(at, array[:4])
			if !bytes.Equal(array, before) {
				t.Errorf("% X became % X", before, array)
			}
			seen := picture(t, d)
			clear(array)
			if after := picture(t, d); after != seen {
				t.Errorf("the device changed with the bytes that it was given: %s became %s", seen, after)
			}
			d.Restore()
			checkProgram(t, d, 0, make([]byte, 128), api.OK)
			checkErase(t, d, 0, api.OK)
			if !bytes.Equal(array, make([]byte, 6)) {
				t.Errorf("the bytes that were given became % X", array)
			}
		}
	}
}

// R2: also what lies behind the bytes that are read.
func TestReadSharesNoMemory(t *testing.T) {
	for _, x := range []struct{ at, n int }{{0, 0}, {0, 1}, {3, 5}, {60, 8}, {0, 64}, {64, 64}, {127, 1}, {128, 0}, {0, 128}} {
		d := numbered(t)
		c := d.Clone()
		before := picture(t, d)
		b, _ := d.Read(x.at, x.n)
		again, _ := d.Read(x.at, x.n)
		other, _ := c.Read(x.at, x.n)
		want := slices.Clone(b)
		for i := range b[:cap(b)] {
			b[:cap(b)][i] = 0xEE
		}
		if !bytes.Equal(again, want) || !bytes.Equal(other, want) {
			t.Errorf("two results of Read of %d bytes at %d share memory", x.n, x.at)
		}
		if picture(t, d) != before || picture(t, c) != before {
			t.Errorf("a result of Read of %d bytes at %d is memory of the device", x.n, x.at)
		}
		checkErase(t, d, 0, api.OK)
		checkProgram(t, d, 0, make([]byte, 128), api.OK)
		if !bytes.Equal(again, want) {
			t.Errorf("a result of Read of %d bytes at %d changed with the device", x.n, x.at)
		}
	}
}

// R2
func TestWearSharesNoMemory(t *testing.T) {
	d := newDevice(t, 3, 64)
	checkErase(t, d, 1, api.OK)
	c := d.Clone()
	first, second, other := d.Wear(), d.Wear(), c.Wear()
	for i := range first[:cap(first)] {
		first[:cap(first)][i] = 77
	}
	want := []int{0, 1, 0}
	if !slices.Equal(second, want) || !slices.Equal(other, want) || !slices.Equal(d.Wear(), want) || !slices.Equal(c.Wear(), want) {
		t.Errorf("the wear became %v, %v, %v, %v", second, other, d.Wear(), c.Wear())
	}
	checkErase(t, d, 1, api.OK)
	checkErase(t, c, 2, api.OK)
	if !slices.Equal(second, want) || !slices.Equal(other, want) {
		t.Errorf("what Wear returned became %v and %v", second, other)
	}
	checkCounts(t, d, false, 2, 0, 2, 0)
	checkCounts(t, c, false, 2, 0, 1, 1)
}

// R2, R7: the same calls lead to the same, whatever happens to other devices in between.
func TestDevicesAreApart(t *testing.T) {
	for seed := range int64(30) {
		calls := drawCalls(rand.New(rand.NewSource(seed)), 2, 64, 60)
		first, second, other := newDevice(t, 2, 64), newDevice(t, 2, 64), newDevice(t, 2, 64)
		var want []result
		for _, c := range calls {
			want = append(want, resultOf(c, first))
		}
		strange := drawCalls(rand.New(rand.NewSource(seed+1000)), 2, 64, 60)
		for i, c := range calls {
			strange[i].run(other)
			if got := resultOf(c, second); got != want[i] {
				t.Errorf("seed %d: %s is %v, at another time %v", seed, c.name, want[i], got)
			}
		}
		if a, b := picture(t, first), picture(t, second); a != b {
			t.Errorf("seed %d: the same calls lead to %s and %s", seed, a, b)
		}
	}
}

type result struct {
	bytes string
	e     api.Errno
}

func resultOf(c call, d *flash.Device) result {
	b, e := c.run(d)
	return result{string(b), e}
}
