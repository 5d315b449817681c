package flash_test

import (
	"bytes"
	"math"
	"slices"
	"testing"

	"baseboard/api"
	"baseboard/flash"
)

// P5.1
func TestNewWithinTheLimits(t *testing.T) {
	for _, sectors := range []int{1, 2, 3, 15, 16} {
		for _, size := range []int{64, 65, 100, 128, 1000, 1023, 1024} {
			d := newDevice(t, sectors, size)
			if d.Sectors() != sectors || d.Size() != size {
				t.Errorf("%d sectors of %d bytes are %d of %d", sectors, size, d.Sectors(), d.Size())
			}
			checkRead(t, d, 0, sectors*size, bytes.Repeat([]byte{0xFF}, sectors*size), api.OK)
			checkRead(t, d, 0, sectors*size+1, nil, api.ErrRange)
			checkCounts(t, d, false, 0, make([]int, sectors)...)
			if n := stepsLeft(d, 2000); n != 0 {
				t.Errorf("the power of a new device fails at step %d", n)
			}
		}
	}
}

// P5.1, R5
func TestNewBeyondTheLimits(t *testing.T) {
	for _, sectors := range []int{math.MinInt, -16, -1, 0, 1, 7, 16, 17, 1 << 32, 1<<32 + 1, math.MaxInt} {
		for _, size := range []int{math.MinInt, -64, -1, 0, 1, 63, 64, 500, 1024, 1025, 1 << 32, 1<<32 + 64, math.MaxInt} {
			if sectors >= 1 && sectors <= 16 && size >= 64 && size <= 1024 {
				continue
			}
			if d, e := flash.New(sectors, size); d != nil || e != api.ErrRange {
				t.Errorf("New of %d sectors of %d bytes is %p, error %d", sectors, size, d, e)
			}
		}
	}
}

// P5.1: the offsets count over all sectors.
func TestSectorsLieOneBehindTheOther(t *testing.T) {
	for _, size := range []int{64, 77, 1024} {
		for sector := range 4 {
			d := newDevice(t, 4, size)
			checkProgram(t, d, 0, make([]byte, 4*size), api.OK)
			checkErase(t, d, sector, api.OK)
			want := make([]byte, 4*size)
			for i := range size {
				want[sector*size+i] = 0xFF
			}
			checkRead(t, d, 0, 4*size, want, api.OK)
		}
	}
}

// numbered returns a device of two sectors of 64 bytes each of which has its offset as its value.
func numbered(t *testing.T) *flash.Device {
	t.Helper()
	d := newDevice(t, 2, 64)
	var b []byte
	for i := range 128 {
		b = append(b, byte(i))
	}
	checkProgram(t, d, 0, b, api.OK)
	return d
}

// P5.2
func TestReadWithinTheDevice(t *testing.T) {
	d := numbered(t)
	for _, x := range []struct {
		at, n int
		want  []byte
	}{
		{0, 0, nil},
		{0, 1, []byte{0}},
		{5, 3, []byte{5, 6, 7}},
		{62, 4, []byte{62, 63, 64, 65}},
		{64, 1, []byte{64}},
		{127, 0, nil},
		{127, 1, []byte{127}},
		{126, 2, []byte{126, 127}},
		{128, 0, nil},
	} {
		checkRead(t, d, x.at, x.n, x.want, api.OK)
	}
	for at := range 129 {
		for n := range 129 - at {
			var want []byte
			for i := range n {
				want = append(want, byte(at+i))
			}
			checkRead(t, d, at, n, want, api.OK)
		}
	}
	checkCounts(t, d, false, 128, 0, 0)
}

// P5.2, R5
func TestReadBeyondTheDevice(t *testing.T) {
	d := numbered(t)
	before := picture(t, d)
	for _, x := range []struct{ at, n int }{
		{-1, 0}, {-1, 1}, {-1, 2}, {-5, 3}, {0, -1}, {5, -1}, {5, -5}, {128, -1}, {-1, -1},
		{0, 129}, {1, 128}, {127, 2}, {128, 1}, {129, 0}, {129, 1}, {129, -1}, {200, 0},
		{math.MinInt, 0}, {math.MinInt, 1}, {math.MinInt, math.MinInt}, {math.MinInt, math.MaxInt}, {math.MinInt + 1, math.MaxInt},
		{0, math.MinInt}, {1, math.MinInt}, {127, math.MinInt}, {math.MaxInt, math.MinInt}, {math.MaxInt, math.MinInt + 1},
		{0, math.MaxInt}, {1, math.MaxInt}, {127, math.MaxInt}, {128, math.MaxInt - 127}, {math.MaxInt, 0}, {math.MaxInt, 1}, {math.MaxInt, math.MaxInt}, {math.MaxInt - 1, 2}, {math.MaxInt - 127, 128},
		{1 << 32, 1}, {0, 1 << 32}, {1 << 62, 1 << 62}, {math.MaxInt, math.MaxInt - 1}, {-1, math.MaxInt}, {math.MaxInt, -1}, {math.MaxInt, -math.MaxInt}, {-math.MaxInt, math.MaxInt},
	} {
		checkRead(t, d, x.at, x.n, nil, api.ErrRange)
	}
	if after := picture(t, d); after != before {
		t.Errorf("%s became %s", before, after)
	}
}

// P5.3
func TestProgramWithinTheDevice(t *testing.T) {
	for _, x := range []struct {
		at int
		b  []byte
	}{
		{0, []byte{0}}, {0, []byte{1, 2, 3}}, {7, []byte{0xA5}}, {61, []byte{9, 8, 7, 6, 5, 4}}, {64, []byte{0x40}}, {191, []byte{0x7F}}, {190, []byte{0xFF, 0}},
		{0, bytes.Repeat([]byte{0x3C}, 192)}, {1, bytes.Repeat([]byte{0x3C}, 191)}, {64, make([]byte, 64)},
	} {
		d := newDevice(t, 3, 64)
		checkProgram(t, d, x.at, x.b, api.OK)
		set := map[int]byte{}
		for i, c := range x.b {
			set[x.at+i] = c
		}
		checkContent(t, d, set)
		checkCounts(t, d, false, len(x.b), 0, 0, 0)
	}
}

// P5.3: all values over all values; the second Program would have to set bits in most of them.
func TestProgramOverProgrammedBytes(t *testing.T) {
	for old := range 256 {
		d := newDevice(t, 4, 64)
		checkProgram(t, d, 0, bytes.Repeat([]byte{byte(old)}, 256), api.OK)
		var b, want []byte
		for x := range 256 {
			b = append(b, byte(x))
			want = append(want, byte(old&x))
		}
		checkProgram(t, d, 0, b, api.OK)
		checkRead(t, d, 0, 256, want, api.OK)
		checkProgram(t, d, 0, b, api.OK)
		checkRead(t, d, 0, 256, want, api.OK)
		checkCounts(t, d, false, 768, 0, 0, 0, 0)
	}
}

// P5.3: a byte that does not change is a step too.
func TestProgramCountsEachByte(t *testing.T) {
	d := newDevice(t, 1, 64)
	for i, b := range [][]byte{{0xFF}, {0xFF, 0xFF}, {0}, {0, 0, 0}, {0xFF, 0xFF, 0xFF, 0xFF}} {
		before := d.Steps()
		checkProgram(t, d, i, b, api.OK)
		if n := d.Steps() - before; n != len(b) {
			t.Errorf("Program of % X has %d steps", b, n)
		}
	}
}

// P5.3, R3
func TestProgramOfNoBytes(t *testing.T) {
	for _, b := range [][]byte{nil, {}} {
		d := numbered(t)
		before := picture(t, d)
		d.Arm(1, 0xFF)
		for _, at := range []int{0, 1, 63, 64, 127, 128} {
			checkProgram(t, d, at, b, api.OK)
		}
		for _, at := range []int{-1, 129, 1000, math.MinInt, math.MaxInt} {
			checkProgram(t, d, at, b, api.ErrRange)
		}
		if after := picture(t, d); after != before {
			t.Errorf("%s became %s", before, after)
		}
		if n := stepsLeft(d, 3); n != 1 {
			t.Errorf("the power fails at step %d after the steps of no bytes", n)
		}
	}
}

// P5.3, R5
func TestProgramBeyondTheDevice(t *testing.T) {
	d := numbered(t)
	d.Arm(1, 0)
	before := picture(t, d)
	for _, x := range []struct{ at, n int }{
		{-1, 1}, {-1, 2}, {-2, 200}, {0, 129}, {1, 128}, {64, 65}, {126, 3}, {127, 2}, {128, 1}, {129, 1}, {1000, 1},
		{math.MinInt, 1}, {math.MinInt, 128}, {math.MinInt + 1, 1}, {math.MaxInt, 1}, {math.MaxInt, 2}, {math.MaxInt, 129}, {math.MaxInt - 1, 1}, {math.MaxInt - 1, 2}, {1 << 32, 1}, {1 << 62, 1},
	} {
		checkProgram(t, d, x.at, make([]byte, x.n), api.ErrRange)
	}
	if after := picture(t, d); after != before {
		t.Errorf("%s became %s", before, after)
	}
	if n := stepsLeft(d, 3); n != 1 {
		t.Errorf("the power fails at step %d after what was refused", n)
	}
}

// P5.4
func TestErase(t *testing.T) {
	d := newDevice(t, 3, 64)
	checkProgram(t, d, 0, make([]byte, 192), api.OK)
	want := make([]byte, 192)
	wear := []int{0, 0, 0}
	for i, sector := range []int{0, 2, 1, 1, 2, 2} {
		checkErase(t, d, sector, api.OK)
		copy(want[64*sector:], bytes.Repeat([]byte{0xFF}, 64))
		wear[sector]++
		checkRead(t, d, 0, 192, want, api.OK)
		checkCounts(t, d, false, 192+i+1, wear...)
	}
}

// P5.4: a sector that is erased already is worn too.
func TestEraseOfErasedSector(t *testing.T) {
	d := newDevice(t, 16, 1024)
	checkErase(t, d, 0, api.OK)
	checkErase(t, d, 15, api.OK)
	checkErase(t, d, 15, api.OK)
	checkContent(t, d, nil)
	wear := make([]int, 16)
	wear[0], wear[15] = 1, 2
	checkCounts(t, d, false, 3, wear...)
}

// P5.4, R5
func TestEraseOfNoSector(t *testing.T) {
	d := numbered(t)
	d.Arm(1, 0)
	before := picture(t, d)
	for _, sector := range []int{-1, -2, 2, 3, 16, 64, 128, 1 << 32, 1 << 58, 1 << 60, 1 << 62, math.MinInt, math.MinInt + 1, math.MaxInt - 1, math.MaxInt} {
		checkErase(t, d, sector, api.ErrRange)
	}
	if after := picture(t, d); after != before {
		t.Errorf("%s became %s", before, after)
	}
	if n := stepsLeft(d, 3); n != 1 {
		t.Errorf("the power fails at step %d after what was refused", n)
	}
}

// P5.6
func TestSectorsAndSizeStay(t *testing.T) {
	d := newDown(t, 5, 70)
	for _, f := range []func(){func() {}, d.Restore, func() { d.Erase(4) }, func() { d.Arm(1, 0) }, func() { d.Erase(4) }} {
		f()
		if d.Sectors() != 5 || d.Size() != 70 {
			t.Errorf("%d sectors of %d bytes", d.Sectors(), d.Size())
		}
	}
}

// P5.6
func TestWearCountsEachSector(t *testing.T) {
	d := newDevice(t, 16, 64)
	var want []int
	for sector := range 16 {
		for range sector {
			checkErase(t, d, sector, api.OK)
		}
		want = append(want, sector)
	}
	if wear := d.Wear(); !slices.Equal(wear, want) || d.Steps() != 120 {
		t.Errorf("the wear is %v after %d steps", wear, d.Steps())
	}
}

// The chapter's first example.
func TestFirstExample(t *testing.T) {
	d := newDevice(t, 1, 64)
	checkProgram(t, d, 0, []byte{0xF0}, api.OK)
	checkProgram(t, d, 0, []byte{0x0F}, api.OK)
	checkContent(t, d, map[int]byte{0: 0})
}
