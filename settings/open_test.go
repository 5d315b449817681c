package settings_test

import (
	"bytes"
	"fmt"
	"math"
	"slices"
	"testing"

	"baseboard/api"
	"baseboard/settings"
)

func checkOpenError(t *testing.T, sectors, size, first int, down bool, want api.Errno) {
	t.Helper()
	d := newDevice(t, sectors, size)
	if down {
		d = newDown(t, sectors, size)
	}
	before := d.Clone()
	if s, e := settings.Open(d, first); s != nil || e != want {
		t.Errorf("Open at sector %d of %d sectors of %d bytes, down: %t, is %p, error %d, not error %d", first, sectors, size, down, s, e, want)
	}
	checkSame(t, "Open with an error", d, before)
}

// P6.1, R1, R5
func TestOpenBeyondTheDevice(t *testing.T) {
	for _, sectors := range []int{1, 2, 3, 16} {
		for _, first := range []int{math.MinInt, math.MinInt + 1, -1 << 32, -1 << 31, -3, -2, -1, sectors - 1, sectors, sectors + 1, 16, 1 << 31, 1 << 32, 1 << 53, 1 << 54, 1 << 62, math.MaxInt - 1, math.MaxInt} {
			// ErrRange comes before ErrLimit and ErrPower.
			for _, size := range []int{64, 1023, 1024} {
				checkOpenError(t, sectors, size, first, false, api.ErrRange)
				checkOpenError(t, sectors, size, first, true, api.ErrRange)
			}
		}
	}
	for first := range 2 {
		checkOpenError(t, 1, 1024, first, false, api.ErrRange)
	}
}

// P6.1, R4, R5: ErrLimit comes before ErrPower.
func TestOpenOfSmallSectors(t *testing.T) {
	for _, size := range []int{64, 100, 512, 1000, 1022, 1023} {
		for _, x := range []struct{ sectors, first int }{{2, 0}, {3, 0}, {3, 1}, {16, 14}} {
			checkOpenError(t, x.sectors, size, x.first, false, api.ErrLimit)
			checkOpenError(t, x.sectors, size, x.first, true, api.ErrLimit)
		}
	}
}

// P6.1, R5
func TestOpenOfDeviceThatIsDown(t *testing.T) {
	checkOpenError(t, 2, 1024, 0, true, api.ErrPower)
	checkOpenError(t, 16, 1024, 14, true, api.ErrPower)
	d := deviceWith(t, sector(1, 0, batch(put(1, 2))), nil)
	takeDown(t, d)
	for range 2 {
		if s, e := settings.Open(d, 1); s != nil || e != api.ErrPower {
			t.Errorf("Open is %p, error %d", s, e)
		}
	}
	d.Restore()
	checkStore(t, "after Restore", open(t, d, 1), 1, put(1, 2))
}

// P6.1: the store has the sectors first and first + 1, and no others.
func TestOpenAtEachSector(t *testing.T) {
	for first := range 15 {
		d := newDevice(t, 16, size)
		checkStore(t, "erased", open(t, d, first), 0)
		for i := range 16 {
			if i != first && i != first+1 {
				program(t, d, i*size, sector(uint32(1000+i), 0, batch(put(uint8(i), 1)))...)
			}
		}
		checkStore(t, "others written", open(t, d, first), 0)
		program(t, d, (first+1)*size, sector(3, 0, batch(put(33, 3)))...)
		checkStore(t, "second written", open(t, d, first), 3, put(33, 3))
		program(t, d, first*size, sector(4, 0, batch(put(44, 4, 4)))...)
		checkStore(t, "both written", open(t, d, first), 4, put(44, 4, 4))
	}
	d := newDevice(t, 2, size)
	program(t, d, size, sector(3, 0, batch(put(33, 3)))...)
	checkStore(t, "two sectors", open(t, d, 0), 3, put(33, 3))
}

// P6.1: Open does not write, whatever it finds.
func TestOpenDoesNotWrite(t *testing.T) {
	good, torn := sector(7, 0, batch(put(1, 2)), batch(remove(1))), sector(8, 0, []byte{2, 1, 1, 5, 9})
	for i, x := range [][2][]byte{{nil, nil}, {good, nil}, {nil, good}, {torn, good}, {good, torn}, {torn, nil}, {nil, torn}, {sector(9, 0xFF), good}, {good, good}, {make([]byte, size), make([]byte, size)}} {
		d := deviceWith(t, x[0], x[1])
		before := d.Clone()
		s := open(t, d, 1)
		s.All()
		s.Generation()
		s.Get(1)
		checkSame(t, fmt.Sprintf("device %d", i), d, before)
		d.Arm(3, 0)
		open(t, d, 1)
		if n := stepsLeft(d, 10); n != 3 {
			t.Errorf("device %d: after Open the power fails at step %d", i, n)
		}
	}
}

// The format: a sector is valid if its status is 00 and its generation is from 1 to MaxGeneration.
func TestValidSectors(t *testing.T) {
	type contents struct {
		b          []byte
		generation int // 0 if the sector is not valid
	}
	change := batch(put(5, 50))
	var l []contents
	for status := range 256 {
		generation := 0
		if status == 0 {
			generation = 3
		}
		l = append(l, contents{sector(3, byte(status), change), generation})
	}
	for _, g := range []uint32{1, 2, 0x7F, 0x80, 0xFF, 0x100, 0x01020304, 0x00FF00FF, 0x7F000000, 1<<31 - 1, 1 << 31} {
		l = append(l, contents{sector(g, 0, change), int(g)}, contents{sector(g, 0xFF, change), 0}, contents{sector(g, 1, change), 0})
	}
	for _, g := range []uint32{0, 1<<31 + 1, 1<<31 + 2, 0x80000080, 0x80010000, 0x81000000, 0xC0000000, 0xFFFFFFFE, 0xFFFFFFFF} {
		l = append(l, contents{sector(g, 0, change), 0})
	}
	for _, x := range l {
		var want []api.Setting
		if x.generation > 0 {
			want = []api.Setting{put(5, 50)}
		}
		what := fmt.Sprintf("the sector % X", x.b)
		checkStore(t, what+" first", open(t, deviceWith(t, x.b, nil), 1), x.generation, want...)
		checkStore(t, what+" second", open(t, deviceWith(t, nil, x.b), 1), x.generation, want...)
	}
}

// The format: the active sector is the valid one with the greater generation, or the first one.
func TestActiveSector(t *testing.T) {
	one, two := batch(put(1, 1)), batch(put(2, 2))
	generations := []uint32{0, 1, 2, 0xFF, 0x100, 0x1FF, 0x200, 0x00FFFFFF, 0x01000000, 0x01000001, 0x02000000, 1<<31 - 1, 1 << 31, 1<<31 + 1, 0xFFFFFFFF}
	for _, low := range generations {
		for _, high := range generations {
			for _, status := range [][2]byte{{0, 0}, {0, 1}, {0x80, 0}, {0xFF, 0xFF}} {
				lowValid := low >= 1 && low <= 1<<31 && status[0] == 0
				highValid := high >= 1 && high <= 1<<31 && status[1] == 0
				generation, want := 0, []api.Setting(nil)
				switch {
				case lowValid && (!highValid || low >= high):
					generation, want = int(low), []api.Setting{put(1, 1)}
				case highValid:
					generation, want = int(high), []api.Setting{put(2, 2)}
				}
				d := deviceWith(t, sector(low, status[0], one), sector(high, status[1], two))
				checkStore(t, fmt.Sprintf("generations %X and %X, status % X", low, high, status), open(t, d, 1), generation, want...)
			}
		}
	}
}

// tailCase is bytes from offset 5 on, how many of them belong to well-formed batches, and what these lead to.
type tailCase struct {
	name   string
	b      []byte
	tail   int
	result []api.Setting
}

// checkTail checks what a sector with the bytes leads to, in both places, and with a change that follows where its tail begins.
func checkTail(t *testing.T, x tailCase) {
	t.Helper()
	change := put(250, 1, 2, 3)
	bytesOfChange := batch(change)
	after := append(slices.Clone(x.result), change)
	erased := !slices.ContainsFunc(x.b[x.tail:], func(y byte) bool { return y != 0xFF })
	at := 5 + x.tail
	for place := range 2 {
		what := fmt.Sprintf("%s, place %d", x.name, place)
		// The other sector begins with zeros, with which a batch that is cut off could go on.
		sectors := [2][]byte{make([]byte, 40), make([]byte, 40)}
		sectors[place] = sector(6, 0, x.b)
		d := deviceWith(t, sectors[0], sectors[1])
		s := open(t, d, 1)
		checkStore(t, what, s, 6, x.result...)
		plain := d.Clone()
		other := 2 - place
		switch {
		case len(after) > api.MaxSettings:
			if e := s.Update([]api.Setting{change}); e != api.ErrLimit {
				t.Errorf("%s: one more key: error %d", what, e)
			}
			checkSame(t, what, d, plain)
			continue
		case erased && at+len(bytesOfChange) <= size:
			runAll(plain, []operation{programs((1+place)*size+at, bytesOfChange...)})
			checkUpdated(t, what, s, change, 6, after)
		default:
			runAll(plain, []operation{erases(other), programs(other*size, 7, 0, 0, 0), programs(other*size+5, batch(after...)...), programs(other*size+4, 0)})
			checkUpdated(t, what, s, change, 7, after)
		}
		checkSame(t, what, d, plain)
		checkStore(t, what+", opened again", open(t, d, 1), s.Generation(), after...)
	}
}

func checkUpdated(t *testing.T, what string, s *settings.Store, change api.Setting, generation int, after []api.Setting) {
	t.Helper()
	if e := s.Update([]api.Setting{change}); e != api.OK {
		t.Errorf("%s: Update returns error %d", what, e)
	}
	checkStore(t, what+", updated", s, generation, after...)
}

// wellFormed returns a case whose batches are all well-formed.
func wellFormed(name string, result []api.Setting, batches ...[]byte) tailCase {
	b := slices.Concat(batches...)
	return tailCase{name, b, len(b), result}
}

// The format
func TestWellFormedBatches(t *testing.T) {
	long := bytes.Repeat([]byte{0x99}, 28)
	for _, x := range []tailCase{
		wellFormed("no batches", nil),
		wellFormed("a value", []api.Setting{put(1, 2)}, batch(put(1, 2))),
		wellFormed("an empty value", []api.Setting{put(1)}, batch(put(1))),
		wellFormed("the greatest value", []api.Setting{put(1, long...)}, batch(put(1, long...))),
		wellFormed("values like other parts", []api.Setting{put(0, 0x80, 0, 0xFF), put(249, 1, 1, 0x80, 0)}, batch(put(0, 0x80, 0, 0xFF)), batch(put(249, 1, 1, 0x80, 0))),
		wellFormed("keys 0 and 249", []api.Setting{put(0, 7), put(249, 8)}, batch(put(249, 8), put(0, 7))),
		wellFormed("two batches", []api.Setting{put(1, 2), put(3, 4)}, batch(put(3, 4)), batch(put(1, 2))),
		wellFormed("a later value", []api.Setting{put(1, 3, 3)}, batch(put(1, 2)), batch(put(1, 3, 3))),
		wellFormed("a later empty value", []api.Setting{put(1)}, batch(put(1, 2)), batch(put(1))),
		wellFormed("a deletion", []api.Setting{put(2, 2)}, batch(put(1, 1), put(2, 2)), batch(remove(1))),
		wellFormed("a deletion alone", nil, batch(remove(1))),
		wellFormed("a deletion of the last key", nil, batch(put(1, 1)), batch(remove(1))),
		wellFormed("a key that comes back", []api.Setting{put(1, 9)}, batch(put(1, 1)), batch(remove(1)), batch(put(1, 9))),
		wellFormed("a deletion among others", []api.Setting{put(2, 2)}, batch(put(1, 1), remove(1), put(2, 2), remove(3))),
		wellFormed("a key twice", []api.Setting{put(1, 6)}, batch(put(1, 5, 5), put(1, 6))),
		wellFormed("a key put and deleted", nil, batch(put(1, 5), remove(1))),
		wellFormed("a key deleted and put", []api.Setting{put(1, 5)}, batch(remove(1), put(1, 5))),
		wellFormed("32 changes", several(60, 32, 3), batch(several(60, 32, 3)...)),
		wellFormed("32 greatest values", several(100, 32, 28), batch(several(100, 32, 28)...)),
		wellFormed("32 changes of one key", []api.Setting{put(1, 4)}, batch(slices.Repeat([]api.Setting{put(1, 4)}, 32)...)),
		wellFormed("31 changes", several(0, 31, 1), batch(several(0, 31, 1)...)),
		wellFormed("32 keys of two batches", several(0, 32, 1), batch(several(0, 20, 1)...), batch(several(10, 22, 1)...)),
		wellFormed("32 keys, one of them changed", append(several(0, 31, 1), put(31, 8)), batch(several(0, 32, 1)...), batch(put(31, 8))),
		wellFormed("33 keys in between", append(several(1, 31, 1), put(99, 9)), batch(several(0, 32, 1)...), batch(put(99, 9), remove(0))),
		wellFormed("48 keys in between", several(33, 31, 1), batch(several(0, 32, 1)...), batch(append(several(33, 16, 1), deletions(0, 16)...)...), batch(append(deletions(16, 16), several(49, 15, 1)...)...)),
		wellFormed("all keys deleted", nil, batch(several(7, 32, 1)...), batch(deletions(7, 32)...)),
		wellFormed("many batches", []api.Setting{leftBy(1000)}, filled(1000)),
	} {
		checkTail(t, x)
	}
}

// The format: what begins with the bytes is not a well-formed batch, and what follows is not looked at.
func TestBatchesThatAreNotWellFormed(t *testing.T) {
	change := func(b ...byte) []byte { return b }
	thirtyThree := batch(slices.Repeat([]api.Setting{put(1, 4)}, 33)...)
	for _, x := range []struct {
		name string
		b    []byte
	}{
		{"c of 0", change(0, 0)},
		{"c of 0, with a change", change(0, 1, 1, 5, 0)},
		{"c of 33", thirtyThree},
		{"c of 34", batch(slices.Repeat([]api.Setting{remove(1)}, 34)...)},
		{"c of 128", batch(slices.Repeat([]api.Setting{remove(1)}, 128)...)},
		{"c of 255", batch(slices.Repeat([]api.Setting{put(1)}, 255)...)},
		{"a length of 29", append(append([]byte{1, 1, 29}, make([]byte, 29)...), 0)},
		{"a length of 29 in the second change", append(append([]byte{2, 5, 0x80, 1, 29}, make([]byte, 29)...), 0)},
		{"a status of 1", change(1, 1, 1, 5, 1)},
		{"a status of 80 hex", change(1, 1, 1, 5, 0x80)},
		{"a status of FF hex", change(1, 1, 1, 5, 0xFF, 0)},
		{"a status of FF hex after a deletion", change(1, 1, 0x80, 0xFF)},
		{"one change too few", change(2, 1, 1, 5, 0, 0xFF)},
		{"one change too many", change(1, 1, 1, 5, 2, 1, 5, 0)},
		{"a batch that ends after its count", change(3, 0xFF, 0xFF)},
		{"a batch that ends after a key", change(1, 1, 0xFF, 0xFF)},
		{"a batch that ends after a length", change(1, 1, 2, 0xFF, 0xFF, 0xFF)},
		{"a batch that ends in a value", change(1, 1, 3, 9, 0xFF, 0xFF, 0xFF)},
		{"a batch that ends after the first change", change(2, 1, 1, 9, 0xFF, 0xFF, 0xFF)},
	} {
		next := batch(put(77, 7))
		first := batch(put(3, 3), put(4, 4))
		for _, following := range [][]byte{nil, next} {
			checkTail(t, tailCase{x.name, append(slices.Clone(x.b), following...), 0, nil})
			checkTail(t, tailCase{x.name + " after a batch", slices.Concat(first, x.b, following), len(first), []api.Setting{put(3, 3), put(4, 4)}})
		}
	}
}

// The format: each length byte, with zeros behind it that end a batch of this length.
func TestLengthBytes(t *testing.T) {
	first := batch(put(3, 3), put(1, 1))
	for length := range 256 {
		b := append([]byte{1, 1, byte(length)}, make([]byte, 258)...)
		x := tailCase{fmt.Sprintf("length byte %02X", length), append(slices.Clone(first), b...), len(first), []api.Setting{put(1, 1), put(3, 3)}}
		switch {
		case length <= 28:
			x.tail += 3 + length + 1
			x.result = []api.Setting{put(1, make([]byte, length)...), put(3, 3)}
		case length == 0x80:
			x.tail += 4
			x.result = []api.Setting{put(3, 3)}
		}
		checkTail(t, x)
	}
}

// The format: each count, with as many changes behind it.
func TestCountBytes(t *testing.T) {
	first := batch(put(3, 3))
	for c := range 256 {
		b := batch(slices.Repeat([]api.Setting{put(4)}, c)...)
		x := tailCase{fmt.Sprintf("count %d", c), append(slices.Clone(first), b...), len(first), []api.Setting{put(3, 3)}}
		if c >= 1 && c <= 32 {
			x.tail += len(b)
			x.result = append(x.result, put(4))
		}
		checkTail(t, x)
	}
}

// The format: each status byte of a batch.
func TestStatusBytes(t *testing.T) {
	for status := range 256 {
		x := tailCase{name: fmt.Sprintf("status %02X", status), b: []byte{2, 4, 1, 44, 5, 0x80, byte(status)}}
		if status == 0 {
			x.tail, x.result = 7, []api.Setting{put(4, 44)}
		}
		checkTail(t, x)
	}
}

// The format: after the changes of a batch there are at most MaxSettings keys.
func TestBatchesWithTooManyKeys(t *testing.T) {
	for _, x := range []struct {
		before []api.Setting
		b      []api.Setting
	}{
		{several(0, 32, 1), []api.Setting{put(99, 9)}},
		{several(0, 32, 1), []api.Setting{put(31, 9), put(99, 9)}},
		{several(0, 32, 1), []api.Setting{remove(31), put(98, 9), put(99, 9)}},
		{several(0, 32, 1), []api.Setting{put(98, 9), put(99, 9), remove(0)}},
		{several(0, 32, 1), []api.Setting{put(99, 9), remove(98)}},
		{several(0, 32, 1), []api.Setting{remove(5), put(99, 9), put(5, 5)}},
		{several(0, 31, 1), several(100, 2, 2)},
		{several(0, 1, 1), several(100, 32, 0)},
		{several(0, 16, 1), several(8, 25, 0)},
	} {
		first, second := batch(x.before...), batch(x.b...)
		// The batch that follows is well-formed where the second one begins, but not looked at.
		b := slices.Concat(first, second, batch(remove(0)))
		checkTail(t, tailCase{fmt.Sprintf("%d settings and %v", len(x.before), x.b), b, len(first), x.before})
	}
}

// The format: all of a batch lies within the sector.
func TestBatchesAtTheEndOfTheSector(t *testing.T) {
	const room = size - 5
	for _, x := range []struct {
		name    string
		changes []api.Setting
	}{
		{"a value", []api.Setting{put(1, 0, 0, 0, 0, 0)}},
		{"an empty value", []api.Setting{put(1)}},
		{"a deletion", []api.Setting{remove(2)}},
		{"two changes", []api.Setting{put(1, 0), remove(0)}},
		{"the greatest value", []api.Setting{put(0, make([]byte, 28)...)}},
		{"changes of key 0 alone", []api.Setting{put(0), put(0), put(0)}},
	} {
		b := batch(x.changes...)
		// The batch ends cut bytes behind the end of the sector.
		for cut := -1; cut <= len(b); cut++ {
			n := room - len(b) + cut
			before := []api.Setting{leftBy(n)}
			all := append(filled(n), b...)
			y := tailCase{fmt.Sprintf("%s, %d bytes of the sector in front of it", x.name, n), all[:min(len(all), room)], n, before}
			if len(all) <= room {
				y.tail, y.result = len(all), applied(before, x.changes)
			}
			checkTail(t, y)
		}
	}
}

// The format, P6.3: a single byte of the tail that is not FF hex, wherever it is.
func TestTailsThatAreNotErased(t *testing.T) {
	first := batch(put(3, 3))
	const room = size - 5
	for _, at := range []int{0, 1, 2, 3, 4, 5, 6, 7, 100, 500, room - len(first) - 2, room - len(first) - 1} {
		for _, x := range []byte{0, 1, 2, 0x7F, 0xFE} {
			tail := bytes.Repeat([]byte{0xFF}, room-len(first))
			tail[at] = x
			checkTail(t, tailCase{fmt.Sprintf("%02X at byte %d of the tail", x, at), slices.Concat(first, tail), len(first), []api.Setting{put(3, 3)}})
			checkTail(t, tailCase{fmt.Sprintf("%02X at byte %d of the sector", x, 5+at), tail, 0, nil})
		}
	}
}
