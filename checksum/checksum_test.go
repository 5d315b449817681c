package checksum_test

import (
	"bytes"
	"fmt"
	"hash/crc32"
	"math/rand"
	"testing"

	"baseboard/api"
	"baseboard/checksum"
)

// sealing is one way to seal and open a byte string; size is the number of bytes of its checksum.
type sealing struct {
	name string
	size int
	seal func([]byte) []byte
	open func([]byte) ([]byte, api.Errno)
}

var sealings = []sealing{
	{"8", 1, checksum.Seal8, checksum.Open8},
	{"CRC8", 1, checksum.SealCRC8, checksum.OpenCRC8},
	{"CRC32", 4, checksum.SealCRC32, checksum.OpenCRC32},
}

// samples returns the same byte strings in every run: the short ones that matter, and some of each length up to 40.
func samples() [][]byte {
	r := rand.New(rand.NewSource(1))
	l := [][]byte{nil, {}, {0}, {1}, {0x80}, {0xFF}, {0, 0, 0, 0}, []byte("123456789")}
	for n := range 41 {
		b := make([]byte, n)
		r.Read(b)
		l = append(l, b)
	}
	return append(l, bytes.Repeat([]byte{0xFF}, 100))
}

// remainder8 divides the bits of b, with eight zeros behind them, by x^8 + x^2 + x + 1.
func remainder8(b []byte) uint8 {
	var bits []int
	for _, x := range b {
		for i := 7; i >= 0; i-- {
			bits = append(bits, int(x>>i&1))
		}
	}
	n := len(bits)
	bits = append(bits, make([]int, 8)...)
	for i := range n {
		if bits[i] == 1 {
			for _, at := range []int{0, 6, 7, 8} {
				bits[i+at] ^= 1
			}
		}
	}
	var rest uint8
	for _, x := range bits[n:] {
		rest = rest<<1 | uint8(x)
	}
	return rest
}

// flip returns a copy of b with a bit changed; bits count from the most significant one of the first byte on.
func flip(b []byte, bit int) []byte {
	c := bytes.Clone(b)
	c[bit/8] ^= 0x80 >> (bit % 8)
	return c
}

// flipLow does the same, but bits count from the least significant one of each byte on.
func flipLow(b []byte, bit int) []byte {
	c := bytes.Clone(b)
	c[bit/8] ^= 1 << (bit % 8)
	return c
}

func xor(a, b []byte) []byte {
	c := bytes.Clone(a)
	for i := range c {
		c[i] ^= b[i]
	}
	return c
}

// P1.1, P1.2
func TestKnownSums(t *testing.T) {
	for _, x := range []struct {
		b     []byte
		sum   uint8
		crc8  uint8
		crc32 uint32
	}{
		{nil, 0, 0, 0},
		{[]byte{}, 0, 0, 0},
		{[]byte{0}, 0, 0, 0xD202EF8D},
		{[]byte{1}, 0xFF, 0x07, 0xA505DF1B},
		{[]byte{0x80}, 0x80, 0x89, 0x3FBA6CAD},
		{[]byte{0xFF}, 0x01, 0xF3, 0xFF000000},
		{[]byte{0x20, 0x18}, 0xC8, 0xE6, 0xC731AE0B},
		{[]byte{0x80, 0x80}, 0, 0x3F, 0x97E20994},
		{[]byte("123456789"), 0x23, 0xF4, 0xCBF43926},
	} {
		if got := checksum.Sum8(x.b); got != x.sum {
			t.Errorf("Sum8 of % X: %02X", x.b, got)
		}
		if got := checksum.CRC8(x.b); got != x.crc8 {
			t.Errorf("CRC8 of % X: %02X", x.b, got)
		}
		if got := checksum.CRC32(x.b); got != x.crc32 {
			t.Errorf("CRC32 of % X: %08X", x.b, got)
		}
	}
}

// P1.1
func TestSum8MakesMultipleOf256(t *testing.T) {
	for _, b := range samples() {
		total := int(checksum.Sum8(b))
		for _, x := range b {
			total += int(x)
		}
		if total%256 != 0 {
			t.Errorf("% X: the sum is %d", b, total)
		}
	}
}

// P1.1
func TestSum8DoesNotDependOnOrder(t *testing.T) {
	r := rand.New(rand.NewSource(2))
	for _, b := range samples() {
		c := bytes.Clone(b)
		r.Shuffle(len(c), func(i, j int) { c[i], c[j] = c[j], c[i] })
		if checksum.Sum8(b) != checksum.Sum8(c) {
			t.Errorf("% X and % X", b, c)
		}
	}
}

// P1.2
func TestCRC8IsRemainder(t *testing.T) {
	for x := range 256 {
		b := []byte{byte(x)}
		if got, want := checksum.CRC8(b), remainder8(b); got != want {
			t.Errorf("% X: %02X, not %02X", b, got, want)
		}
	}
	for _, b := range samples() {
		if got, want := checksum.CRC8(b), remainder8(b); got != want {
			t.Errorf("% X: %02X, not %02X", b, got, want)
		}
	}
}

// P1.2
func TestCRC32IsThatOfIEEE(t *testing.T) {
	for x := range 256 {
		b := []byte{byte(x)}
		if got, want := checksum.CRC32(b), crc32.ChecksumIEEE(b); got != want {
			t.Errorf("% X: %08X, not %08X", b, got, want)
		}
	}
	for _, b := range samples() {
		if got, want := checksum.CRC32(b), crc32.ChecksumIEEE(b); got != want {
			t.Errorf("% X: %08X, not %08X", b, got, want)
		}
	}
}

// P1.2
func TestCRCsAreLinear(t *testing.T) {
	r := rand.New(rand.NewSource(3))
	for n := range 40 {
		a, b, c := make([]byte, n), make([]byte, n), make([]byte, n)
		r.Read(a)
		r.Read(b)
		r.Read(c)
		if checksum.CRC8(xor(a, b)) != checksum.CRC8(a)^checksum.CRC8(b) {
			t.Errorf("CRC8 of % X and % X", a, b)
		}
		if checksum.CRC32(xor(xor(a, b), c)) != checksum.CRC32(a)^checksum.CRC32(b)^checksum.CRC32(c) {
			t.Errorf("CRC32 of % X, % X and % X", a, b, c)
		}
	}
}

// P1.3, P1.4, P1.5
func TestSealPutsChecksumBehind(t *testing.T) {
	for _, b := range samples() {
		c := checksum.CRC32(b)
		tails := [][]byte{{checksum.Sum8(b)}, {checksum.CRC8(b)}, {byte(c), byte(c >> 8), byte(c >> 16), byte(c >> 24)}}
		for i, f := range sealings {
			want := append(bytes.Clone(b), tails[i]...)
			if got := f.seal(b); !bytes.Equal(got, want) {
				t.Errorf("%s: % X is sealed as % X, not % X", f.name, b, got, want)
			}
		}
	}
}

// P1.3, P1.4, P1.5
func TestSealOfKnownBytes(t *testing.T) {
	for _, x := range []struct {
		b, sum, crc8, crc32 []byte
	}{
		{nil, []byte{0}, []byte{0}, []byte{0, 0, 0, 0}},
		{[]byte{}, []byte{0}, []byte{0}, []byte{0, 0, 0, 0}},
		{[]byte{0x80}, []byte{0x80, 0x80}, []byte{0x80, 0x89}, []byte{0x80, 0xAD, 0x6C, 0xBA, 0x3F}},
		{[]byte{0x20, 0x18}, []byte{0x20, 0x18, 0xC8}, []byte{0x20, 0x18, 0xE6}, []byte{0x20, 0x18, 0x0B, 0xAE, 0x31, 0xC7}},
	} {
		for i, want := range [][]byte{x.sum, x.crc8, x.crc32} {
			if got := sealings[i].seal(x.b); !bytes.Equal(got, want) {
				t.Errorf("%s: % X is sealed as % X", sealings[i].name, x.b, got)
			}
		}
	}
}

// P1.3, P1.4, P1.5
func TestOpenReturnsWhatWasSealed(t *testing.T) {
	for _, b := range samples() {
		for _, f := range sealings {
			if got, e := f.open(f.seal(b)); e != api.OK || !bytes.Equal(got, b) {
				t.Errorf("%s: % X is opened as % X, error %d", f.name, b, got, e)
			}
		}
	}
}

// P1.3, P1.4, P1.5
func TestSealOfWhatWasOpened(t *testing.T) {
	r := rand.New(rand.NewSource(4))
	for _, f := range sealings[:2] {
		opened := 0
		for range 20000 {
			b := make([]byte, 1+r.Intn(4))
			r.Read(b)
			got, e := f.open(b)
			if e == api.OK {
				opened++
			}
			if e == api.OK && !bytes.Equal(f.seal(got), b) || e != api.OK && e != api.ErrChecksum {
				t.Fatalf("%s: % X is opened as % X, error %d", f.name, b, got, e)
			}
		}
		if opened == 0 {
			t.Errorf("%s: nothing was opened", f.name)
		}
	}
}

// P1.3, P1.4, P1.5
func TestOpenOfTooFewBytes(t *testing.T) {
	for _, f := range sealings {
		for n := range f.size {
			for _, x := range []byte{0, 1, 0xFF} {
				if got, e := f.open(bytes.Repeat([]byte{x}, n)); got != nil || e != api.ErrTruncated {
					t.Errorf("%s: %d bytes %02X are opened as % X, error %d", f.name, n, x, got, e)
				}
			}
		}
		if got, e := f.open(make([]byte, f.size)); len(got) != 0 || e != api.OK {
			t.Errorf("%s: %d zeros are opened as % X, error %d", f.name, f.size, got, e)
		}
	}
}

// P1.3, P1.4, P1.5
func TestOpenOfWrongChecksum(t *testing.T) {
	for _, x := range []struct {
		sealing int
		b       []byte
	}{
		{0, []byte{1}},
		{0, []byte{0x20, 0x18, 0xC7}},
		{0, []byte{0x20, 0x18, 0x38}}, // the sum itself, not its complement
		{1, []byte{7}},
		{1, []byte{0x80, 0x80}},
		{1, []byte("123456789\xF5")},
		{2, []byte{0, 0, 0, 1}},
		{2, []byte{1, 0, 0, 0}},
		{2, []byte("123456789\xCB\xF4\x39\x26")}, // the most significant byte first
		{2, []byte("123456789\x26\x39\xF4")},
		{2, []byte("123456789\x26\x39\xF4\xCB\x00")},
	} {
		if got, e := sealings[x.sealing].open(x.b); got != nil || e != api.ErrChecksum {
			t.Errorf("%s: % X is opened as % X, error %d", sealings[x.sealing].name, x.b, got, e)
		}
	}
}

// P1.3, P1.4, P1.5
func TestOpenDetectsEveryChangedByte(t *testing.T) {
	for _, f := range sealings {
		for _, b := range [][]byte{nil, {0}, {0, 0xFF, 0x55, 0x30}, []byte("123456789")} {
			sealed := f.seal(b)
			for at := range sealed {
				for mask := 1; mask < 256; mask++ {
					c := bytes.Clone(sealed)
					c[at] ^= byte(mask)
					if got, e := f.open(c); got != nil || e != api.ErrChecksum {
						t.Fatalf("%s: % X is opened as % X, error %d", f.name, c, got, e)
					}
				}
			}
		}
	}
}

// P1.4: the bits are consecutive in the order in which CRC-8 takes them, the most significant one of a byte first.
func TestCRC8DetectsBursts(t *testing.T) {
	sealed := checksum.SealCRC8([]byte{0xA5, 0, 0xFF, 0x13, 0x37})
	for first := 0; first <= 8*len(sealed)-8; first++ {
		for mask := 1; mask < 256; mask++ {
			c := sealed
			for i := range 8 {
				if mask>>i&1 == 1 {
					c = flip(c, first+i)
				}
			}
			if _, e := checksum.OpenCRC8(c); e != api.ErrChecksum {
				t.Fatalf("from bit %d on, mask %02X: error %d", first, mask, e)
			}
		}
	}
}

// P1.4
func TestCRC8DetectsTwoBits(t *testing.T) {
	sealed := checksum.SealCRC8([]byte("twenty-four bytes, three"))
	bits := 8 * len(sealed)
	for i := range bits {
		for j := i + 1; j <= i+126 && j < bits; j++ {
			if _, e := checksum.OpenCRC8(flip(flip(sealed, i), j)); e != api.ErrChecksum {
				t.Fatalf("bits %d and %d: error %d", i, j, e)
			}
		}
	}
}

// P1.4
func TestCRC8DetectsOddNumbersOfBits(t *testing.T) {
	r := rand.New(rand.NewSource(5))
	sealed := checksum.SealCRC8([]byte("123456789"))
	bits := 8 * len(sealed)
	for range 5000 {
		changed := r.Perm(bits)[:1+2*r.Intn(bits/2)]
		c := sealed
		for _, bit := range changed {
			c = flip(c, bit)
		}
		if _, e := checksum.OpenCRC8(c); e != api.ErrChecksum {
			t.Fatalf("bits %v: error %d", changed, e)
		}
	}
}

// P1.5: the bits are consecutive in the order in which CRC-32 takes them, the least significant one of a byte first.
func TestCRC32DetectsBursts(t *testing.T) {
	r := rand.New(rand.NewSource(6))
	sealed := checksum.SealCRC32([]byte("123456789"))
	for first := 0; first <= 8*len(sealed)-32; first++ {
		for range 200 {
			mask := r.Uint32()
			c := sealed
			for i := range 32 {
				if mask>>i&1 == 1 {
					c = flipLow(c, first+i)
				}
			}
			if _, e := checksum.OpenCRC32(c); mask != 0 && e != api.ErrChecksum {
				t.Fatalf("from bit %d on, mask %08X: error %d", first, mask, e)
			}
		}
	}
}

// R2
func TestSealLeavesArgument(t *testing.T) {
	for _, f := range sealings {
		for n := range 12 {
			array := bytes.Repeat([]byte{0x55}, 16)
			sealed := f.seal(array[:n])
			if !bytes.Equal(array, bytes.Repeat([]byte{0x55}, 16)) {
				t.Errorf("%s: Seal of %d bytes changed its argument", f.name, n)
			}
			want := bytes.Clone(sealed)
			clear(array)
			if !bytes.Equal(sealed, want) {
				t.Errorf("%s: the seal of %d bytes shares memory with the argument", f.name, n)
			}
		}
	}
}

// R2
func TestOpenLeavesArgument(t *testing.T) {
	for _, f := range sealings {
		for n := range 12 {
			sealed := f.seal(bytes.Repeat([]byte{0x55}, n))
			want := bytes.Clone(sealed)
			got, _ := f.open(sealed)
			if !bytes.Equal(sealed, want) {
				t.Errorf("%s: Open changed its argument of %d bytes", f.name, len(sealed))
			}
			// A result that were a part of the argument would have the checksum in its spare capacity.
			clear(got[:cap(got)])
			if !bytes.Equal(sealed, want) {
				t.Errorf("%s: what was opened from %d bytes shares memory with the argument", f.name, len(sealed))
			}
		}
	}
}

// R2
func TestOpenLeavesRefusedArgument(t *testing.T) {
	for _, f := range sealings {
		for _, b := range [][]byte{{9}, {9, 9, 9}, {1, 2, 3, 4, 5, 6}} {
			c := bytes.Clone(b)
			if _, e := f.open(c); e == api.OK || !bytes.Equal(b, c) {
				t.Errorf("%s: % X became % X, error %d", f.name, b, c, e)
			}
		}
	}
}

// R2
func TestSumsLeaveArgument(t *testing.T) {
	b := []byte("123456789")
	checksum.Sum8(b)
	checksum.CRC8(b)
	checksum.CRC32(b)
	if string(b) != "123456789" {
		t.Errorf("the argument became %q", b)
	}
}

// R2, R7
func TestResultsAreNewEachTime(t *testing.T) {
	for _, f := range sealings {
		b := []byte{1, 2, 3}
		sealed, again := f.seal(b), f.seal(b)
		clear(sealed[:cap(sealed)])
		if !bytes.Equal(again, f.seal(b)) {
			t.Errorf("%s: two seals share memory", f.name)
		}
		got, other := opened(t, f, again), opened(t, f, again)
		clear(got[:cap(got)])
		if !bytes.Equal(other, b) {
			t.Errorf("%s: two opened strings share memory", f.name)
		}
	}
}

func opened(t *testing.T, f sealing, b []byte) []byte {
	t.Helper()
	got, e := f.open(b)
	if e != api.OK {
		t.Fatalf("%s: error %d", f.name, e)
	}
	return got
}

// R3
func TestNilIsEmpty(t *testing.T) {
	for _, f := range sealings {
		if !bytes.Equal(f.seal(nil), f.seal([]byte{})) {
			t.Errorf("%s: the seals of nil and of an empty slice differ", f.name)
		}
		_, a := f.open(nil)
		_, b := f.open([]byte{})
		if a != b {
			t.Errorf("%s: the errors of nil and of an empty slice differ: %d, %d", f.name, a, b)
		}
	}
}

// R1
func FuzzOpen(f *testing.F) {
	for _, b := range samples() {
		f.Add(b)
	}
	f.Fuzz(func(t *testing.T, b []byte) {
		for _, x := range sealings {
			got, e := x.open(b)
			if problem := wrongOpening(x, b, got, e); problem != "" {
				t.Errorf("%s: % X is opened as % X, error %d: %s", x.name, b, got, e, problem)
			}
			if back, e := x.open(x.seal(b)); e != api.OK || !bytes.Equal(back, b) {
				t.Errorf("%s: % X does not come back: % X, error %d", x.name, b, back, e)
			}
		}
	})
}

// wrongOpening says what is wrong with the result of opening b; it knows nothing of how Open works.
func wrongOpening(f sealing, b, got []byte, e api.Errno) string {
	if len(b) < f.size {
		return unless(got == nil && e == api.ErrTruncated, "it is too short")
	}
	part := b[:len(b)-f.size]
	if bytes.Equal(f.seal(part), b) {
		return unless(bytes.Equal(got, part) && e == api.OK, "it is sealed")
	}
	return unless(got == nil && e == api.ErrChecksum, "it is not sealed")
}

func unless(right bool, problem string) string {
	if right {
		return ""
	}
	return problem
}

func ExampleSealCRC32() {
	sealed := checksum.SealCRC32([]byte("123456789"))
	b, e := checksum.OpenCRC32(sealed)
	fmt.Printf("% X\n%s %d\n", sealed[9:], b, e)
	// Output:
	// 26 39 F4 CB
	// 123456789 0
}
