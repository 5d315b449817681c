package flash_test

import (
	"bytes"
	"fmt"
	"math/rand"
	"slices"
	"testing"

	"baseboard/api"
	"baseboard/flash"
)

func newDevice(t *testing.T, sectors, size int) *flash.Device {
	t.Helper()
	d, e := flash.New(sectors, size)
	if d == nil || e != api.OK {
		t.Fatalf("New of %d sectors of %d bytes is %p, error %d", sectors, size, d, e)
	}
	return d
}

// newDown returns a device that went down at its first step, which changed its first byte to 0F hex.
func newDown(t *testing.T, sectors, size int) *flash.Device {
	t.Helper()
	d := newDevice(t, sectors, size)
	d.Arm(1, 0)
	checkProgram(t, d, 0, []byte{0x0F}, api.ErrPower)
	if !d.Down() {
		t.Fatal("the device is up after the failure")
	}
	return d
}

// content returns all bytes of a device, also of one that is down.
func content(t *testing.T, d *flash.Device) []byte {
	t.Helper()
	c := d.Clone()
	c.Restore()
	b, e := c.Read(0, c.Sectors()*c.Size())
	if e != api.OK {
		t.Fatalf("the bytes cannot be read, error %d", e)
	}
	return b
}

func checkRead(t *testing.T, d *flash.Device, at, n int, want []byte, wantError api.Errno) {
	t.Helper()
	if b, e := d.Read(at, n); !bytes.Equal(b, want) || e != wantError {
		t.Errorf("Read of %d bytes at %d is % X, error %d, not % X, error %d", n, at, b, e, want, wantError)
	}
}

func checkProgram(t *testing.T, d *flash.Device, at int, b []byte, want api.Errno) {
	t.Helper()
	if e := d.Program(at, b); e != want {
		t.Errorf("Program of % X at %d returns error %d, not %d", b, at, e, want)
	}
}

func checkErase(t *testing.T, d *flash.Device, sector int, want api.Errno) {
	t.Helper()
	if e := d.Erase(sector); e != want {
		t.Errorf("Erase of sector %d returns error %d, not %d", sector, e, want)
	}
}

// checkCounts checks what can be seen of a device besides its bytes.
func checkCounts(t *testing.T, d *flash.Device, down bool, steps int, wear ...int) {
	t.Helper()
	if d.Down() != down || d.Steps() != steps || !slices.Equal(d.Wear(), wear) {
		t.Errorf("down is %t, the steps are %d, the wear is %v, not %t, %d, %v", d.Down(), d.Steps(), d.Wear(), down, steps, wear)
	}
}

// checkContent checks that the device has the given bytes at the offsets and FF hex everywhere else.
func checkContent(t *testing.T, d *flash.Device, set map[int]byte) {
	t.Helper()
	for i, x := range content(t, d) {
		want, ok := set[i]
		if !ok {
			want = 0xFF
		}
		if x != want {
			t.Errorf("the byte at %d is %02X, not %02X", i, x, want)
		}
	}
}

// picture is all of a device that can be seen without a change of it.
func picture(t *testing.T, d *flash.Device) string {
	t.Helper()
	return fmt.Sprintf("%d %d %t %d %v % X", d.Sectors(), d.Size(), d.Down(), d.Steps(), d.Wear(), content(t, d))
}

// stepsLeft returns the number of the step at which the power of a device fails, or 0 if it does not within limit steps.
func stepsLeft(d *flash.Device, limit int) int {
	c := d.Clone()
	for n := 1; n <= limit; n++ {
		if c.Program(0, []byte{0xFF}) == api.ErrPower {
			return n
		}
	}
	return 0
}

// device is what a flash.Device and a model have in common.
type device interface {
	Sectors() int
	Size() int
	Read(at, n int) ([]byte, api.Errno)
	Program(at int, b []byte) api.Errno
	Erase(sector int) api.Errno
	Arm(steps int, torn uint8)
	Down() bool
	Restore()
	Steps() int
	Wear() []int
}

// model follows the promises bit by bit, with a slice for each sector and with the number that the failing step has.
type model struct {
	sectors [][]byte
	wear    []int
	steps   int
	failing uint64 // 0 if the device is not armed
	torn    uint8
	down    bool
}

func newModel(sectors, size int) *model {
	m := &model{wear: make([]int, sectors)}
	for range sectors {
		m.sectors = append(m.sectors, bytes.Repeat([]byte{0xFF}, size))
	}
	return m
}

func (m *model) Sectors() int { return len(m.sectors) }
func (m *model) Size() int    { return len(m.sectors[0]) }
func (m *model) Down() bool   { return m.down }
func (m *model) Restore()     { m.down, m.failing = false, 0 }
func (m *model) Steps() int   { return m.steps }
func (m *model) Wear() []int  { return m.wear }

func (m *model) refuses(outside bool) api.Errno {
	switch {
	case m.down:
		return api.ErrPower
	case outside:
		return api.ErrRange
	}
	return api.OK
}

func (m *model) outside(at, n int) bool {
	return at < 0 || n < 0 || uint64(at)+uint64(n) > uint64(m.Sectors()*m.Size())
}

func (m *model) Read(at, n int) ([]byte, api.Errno) {
	if e := m.refuses(m.outside(at, n)); e != api.OK {
		return nil, e
	}
	return slices.Concat(m.sectors...)[at : at+n], api.OK
}

func (m *model) Program(at int, b []byte) api.Errno {
	if e := m.refuses(m.outside(at, len(b))); e != api.OK {
		return e
	}
	for i, x := range b {
		fails := m.step()
		cell := &m.sectors[(at+i)/m.Size()][(at+i)%m.Size()]
		for bit := uint8(1); bit != 0; bit <<= 1 {
			if x&bit == 0 && !(fails && m.torn&bit != 0) {
				*cell &^= bit
			}
		}
		if fails {
			return api.ErrPower
		}
	}
	return api.OK
}

func (m *model) Erase(sector int) api.Errno {
	if e := m.refuses(sector < 0 || sector >= m.Sectors()); e != api.OK {
		return e
	}
	m.wear[sector]++
	if !m.step() {
		m.sectors[sector] = bytes.Repeat([]byte{0xFF}, m.Size())
		return api.OK
	}
	for i, old := range m.sectors[sector] {
		for bit := uint8(1); bit != 0; bit <<= 1 {
			if old&bit == 0 && m.torn&bit != 0 {
				m.sectors[sector][i] |= bit
			}
		}
	}
	return api.ErrPower
}

func (m *model) Arm(steps int, torn uint8) {
	if m.down {
		return
	}
	m.failing, m.torn = 0, torn
	if steps >= 1 {
		m.failing = uint64(m.steps) + uint64(steps)
	}
}

// step counts a step and reports whether the power fails at it.
func (m *model) step() bool {
	m.steps++
	if uint64(m.steps) != m.failing {
		return false
	}
	m.down, m.failing = true, 0
	return true
}

// call is a call of a method that takes or changes bytes.
type call struct {
	name string
	run  func(d device) ([]byte, api.Errno)
}

func read(at, n int) call {
	return call{fmt.Sprintf("Read(%d, %d)", at, n), func(d device) ([]byte, api.Errno) { return d.Read(at, n) }}
}

func program(at int, b ...byte) call {
	return call{fmt.Sprintf("Program(%d, % X)", at, b), func(d device) ([]byte, api.Errno) { return nil, d.Program(at, b) }}
}

func erase(sector int) call {
	return call{fmt.Sprintf("Erase(%d)", sector), func(d device) ([]byte, api.Errno) { return nil, d.Erase(sector) }}
}

func arm(steps int, torn uint8) call {
	return call{fmt.Sprintf("Arm(%d, %02X)", steps, torn), func(d device) ([]byte, api.Errno) {
		d.Arm(steps, torn)
		return nil, api.OK
	}}
}

func restore() call {
	return call{"Restore()", func(d device) ([]byte, api.Errno) {
		d.Restore()
		return nil, api.OK
	}}
}

// drawCalls returns calls of all kinds, most of them with arguments that are in their ranges.
func drawCalls(r *rand.Rand, sectors, size, n int) []call {
	total := sectors * size
	some := func(in int) int {
		if r.Intn(12) == 0 {
			return []int{-1 << 63, -1, in, in + 1, 1<<63 - 1}[r.Intn(5)]
		}
		return r.Intn(in)
	}
	var l []call
	for range n {
		switch r.Intn(9) {
		case 0, 1:
			l = append(l, read(some(total), some(20)))
		case 2, 3, 4:
			b := make([]byte, r.Intn(12))
			r.Read(b)
			l = append(l, program(some(total), b...))
		case 5:
			l = append(l, erase(some(sectors)))
		case 6, 7:
			l = append(l, arm(some(30)-2, []uint8{0, 0xFF, uint8(r.Intn(256))}[r.Intn(3)]))
		case 8:
			l = append(l, restore())
		}
	}
	return l
}

// runBoth makes a call of a device and of its model and compares what can be seen of them afterwards.
func runBoth(t *testing.T, d *flash.Device, m *model, c call) {
	t.Helper()
	b, e := c.run(d)
	want, wantError := c.run(m)
	if !bytes.Equal(b, want) || e != wantError {
		t.Errorf("%s is % X, error %d, not % X, error %d", c.name, b, e, want, wantError)
	}
	if d.Sectors() != m.Sectors() || d.Size() != m.Size() {
		t.Errorf("%s: %d sectors of %d bytes", c.name, d.Sectors(), d.Size())
	}
	if d.Down() != m.down || d.Steps() != m.steps || !slices.Equal(d.Wear(), m.wear) {
		t.Errorf("%s: down is %t, the steps are %d, the wear is %v, not %t, %d, %v", c.name, d.Down(), d.Steps(), d.Wear(), m.down, m.steps, m.wear)
	}
	if got, want := content(t, d), slices.Concat(m.sectors...); !bytes.Equal(got, want) {
		t.Errorf("%s leaves % X, not % X", c.name, got, want)
	}
}
