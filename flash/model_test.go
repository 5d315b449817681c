package flash_test

import (
	"bytes"
	"math/rand"
	"slices"
	"testing"

	"baseboard/api"
)

// P5.2 to P5.6: all sequences of a few calls.
func TestAllShortSequences(t *testing.T) {
	alphabet := []call{
		read(0, 2), read(63, 3), program(0), program(0, 0x5A), program(63, 0x0F, 0xF0, 0x3C), program(127, 0, 0),
		erase(0), erase(1), erase(2), arm(0, 0), arm(1, 0), arm(1, 0x55), arm(2, 0xFF), restore(),
	}
	const length = 4
	count := 1
	for range length {
		count *= len(alphabet)
	}
	for i := range count {
		d, m := newDevice(t, 2, 64), newModel(2, 64)
		// Each sequence has the digits of a number, so that no two are equal.
		for rest, n := i, 0; n < length; n++ {
			c := alphabet[rest%len(alphabet)]
			rest /= len(alphabet)
			runBoth(t, d, m, c)
		}
		if t.Failed() {
			t.Fatalf("sequence %d", i)
		}
	}
}

// P5.2 to P5.6
func TestDrawnSequences(t *testing.T) {
	failures, up := 0, 0
	for seed := range int64(300) {
		r := rand.New(rand.NewSource(seed))
		sectors, size := 1+r.Intn(4), 64+r.Intn(20)
		if seed%50 == 0 {
			sectors, size = 16, 1024
		}
		d, m := newDevice(t, sectors, size), newModel(sectors, size)
		for _, c := range drawCalls(r, sectors, size, 100) {
			was := m.down
			runBoth(t, d, m, c)
			if t.Failed() {
				t.Fatalf("seed %d", seed)
			}
			if !was {
				up++
			}
			if !was && m.down {
				failures++
			}
		}
	}
	if failures < 500 || up < 10000 {
		t.Errorf("only %d failures, and %d calls of devices that are up", failures, up)
	}
}

// Consequences: a byte only loses bits between two erasures of its sector.
func TestBytesOnlyLoseBits(t *testing.T) {
	for seed := range int64(100) {
		d := newDevice(t, 3, 64)
		old, wear := content(t, d), d.Wear()
		for _, c := range drawCalls(rand.New(rand.NewSource(seed)), 3, 64, 100) {
			c.run(d)
			now := content(t, d)
			for i, x := range now {
				if x&^old[i] != 0 && wear[i/64] == d.Wear()[i/64] {
					t.Errorf("seed %d: %s changes the byte at %d from %02X to %02X", seed, c.name, i, old[i], x)
				}
			}
			old, wear = now, d.Wear()
		}
	}
}

// Consequences: what is read is what was programmed last into erased bytes.
func TestReadReturnsWhatWasProgrammed(t *testing.T) {
	r := rand.New(rand.NewSource(5))
	d := newDevice(t, 4, 100)
	want := bytes.Repeat([]byte{0xFF}, 400)
	for range 300 {
		sector := r.Intn(4)
		checkErase(t, d, sector, api.OK)
		b := make([]byte, r.Intn(101))
		r.Read(b)
		at := 100*sector + r.Intn(101-len(b))
		checkProgram(t, d, at, b, api.OK)
		copy(want[100*sector:], bytes.Repeat([]byte{0xFF}, 100))
		copy(want[at:], b)
		checkRead(t, d, at, len(b), b, api.OK)
		checkRead(t, d, 0, 400, want, api.OK)
	}
}

// Consequences: an operation on a device that is not armed never returns ErrPower.
func TestDeviceThatIsNotArmedDoesNotFail(t *testing.T) {
	for seed := range int64(100) {
		r := rand.New(rand.NewSource(seed))
		d := newDevice(t, 3, 64)
		for _, c := range drawCalls(r, 3, 64, 100) {
			// Arm, also of a device that is down, and Restore leave the device without a failure ahead.
			switch r.Intn(3) {
			case 0:
				d.Arm(-r.Intn(3), 0xFF)
			case 1:
				d.Arm(1+r.Intn(5), 0)
			}
			d.Restore()
			if _, e := c.run(d); e == api.ErrPower || d.Down() {
				t.Errorf("seed %d: %s returns error %d", seed, c.name, e)
			}
		}
	}
}

// Consequences: what lies in front of the failing byte is programmed, and what lies behind it is as it was.
func TestBytesAroundTheFailingOne(t *testing.T) {
	r := rand.New(rand.NewSource(55))
	for range 500 {
		d := newDevice(t, 2, 64)
		old, b := make([]byte, 128), make([]byte, 1+r.Intn(100))
		r.Read(old)
		r.Read(b)
		checkProgram(t, d, 0, old, api.OK)
		done := d.Clone()
		at, failing := r.Intn(129-len(b)), 1+r.Intn(len(b))
		checkProgram(t, done, at, b, api.OK)
		d.Arm(failing, uint8(r.Intn(256)))
		checkProgram(t, d, at, b, api.ErrPower)
		got, all := content(t, d), content(t, done)
		middle := at + failing - 1
		if !bytes.Equal(got[:middle], all[:middle]) || !bytes.Equal(got[middle+1:], old[middle+1:]) {
			t.Errorf("% X at %d, failing at step %d: % X became % X", b, at, failing, old, got)
		}
	}
}

// Consequences: with torn 0 a byte is programmed completely, and a sector is not erased at all.
func TestTornZero(t *testing.T) {
	r := rand.New(rand.NewSource(50))
	for range 200 {
		d := newDevice(t, 2, 64)
		old := make([]byte, 128)
		r.Read(old)
		checkProgram(t, d, 0, old, api.OK)
		d.Arm(1, 0)
		checkErase(t, d, r.Intn(2), api.ErrPower)
		if got := content(t, d); !bytes.Equal(got, old) {
			t.Errorf("an Erase that failed with torn 0 made % X of % X", got, old)
		}
		d.Restore()
		at, x := r.Intn(128), uint8(r.Intn(256))
		d.Arm(1, 0)
		checkProgram(t, d, at, []byte{x}, api.ErrPower)
		want := slices.Clone(old)
		want[at] &= x
		if got := content(t, d); !bytes.Equal(got, want) {
			t.Errorf("a Program of %02X at %d that failed with torn 0 made % X of % X", x, at, got, old)
		}
	}
}

// R1
func FuzzCalls(f *testing.F) {
	f.Add(2, 64, int64(1))
	f.Add(1, 64, int64(2))
	f.Add(16, 1024, int64(3))
	f.Fuzz(func(t *testing.T, sectors, size int, seed int64) {
		if sectors < 1 || sectors > 16 || size < 64 || size > 1024 {
			return
		}
		d, m := newDevice(t, sectors, size), newModel(sectors, size)
		for _, c := range drawCalls(rand.New(rand.NewSource(seed)), sectors, size, 50) {
			runBoth(t, d, m, c)
		}
	})
}
