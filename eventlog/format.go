package eventlog

import (
	"cmp"
	"slices"

	"baseboard/api"
	"baseboard/event"
)

const (
	tailAt     = 4
	firstIDAt  = 8
	statusAt   = 10
	headerSize = 11

	eventSize = 16
	slotSize  = 17

	done   = 0x00 // the status of what is written completely
	erased = 0xFF
)

// header is what stands in front of the slots of a sector.
type header struct {
	sequence, tail int
	firstID        uint16
}

// ringSector is a sector with a valid header.
type ringSector struct {
	header
	bytes []byte
}

func slotsIn(size int) int { return (size - headerSize) / slotSize }

func slotAt(i int) int { return headerSize + i*slotSize }

// placeOf returns which sector of the log has a sequence number.
func placeOf(sequence, sectors int) int { return (sequence - 1) % sectors }

func isErased(b []byte) bool {
	return !slices.ContainsFunc(b, func(x byte) bool { return x != erased })
}

// validSectors returns the sectors with a valid header, ascending by sequence number; b is all bytes of the log.
func validSectors(b []byte, sectors int) []ringSector {
	var l []ringSector
	size := len(b) / sectors
	for j := range sectors {
		s := ringSector{bytes: b[j*size : (j+1)*size]}
		var ok bool
		if s.header, ok = decodeHeader(s.bytes, j, sectors); ok {
			l = append(l, s)
		}
	}
	slices.SortFunc(l, func(x, y ringSector) int { return cmp.Compare(x.sequence, y.sequence) })
	return l
}

// decodeHeader returns the header of sector j of the log, and whether it is valid.
func decodeHeader(sector []byte, j, sectors int) (header, bool) {
	h := header{
		sequence: decodeNumber(sector[:tailAt]),
		tail:     decodeNumber(sector[tailAt:firstIDAt]),
		firstID:  uint16(decodeNumber(sector[firstIDAt:statusAt])),
	}
	ok := sector[statusAt] == done &&
		h.sequence >= 1 && h.sequence <= api.MaxGeneration && placeOf(h.sequence, sectors) == j &&
		h.tail >= 1 && h.tail <= h.sequence && h.sequence-h.tail <= sectors-2 &&
		h.firstID >= 1 && h.firstID <= api.MaxID
	return h, ok
}

// encodeHeader returns a header without its status, which is programmed later.
func encodeHeader(h header) []byte {
	b := appendNumber(nil, h.sequence, tailAt)
	b = appendNumber(b, h.tail, firstIDAt-tailAt)
	return appendNumber(b, int(h.firstID), statusAt-firstIDAt)
}

func decodeNumber(b []byte) int {
	n := 0
	for i, x := range b {
		n |= int(x) << (8 * i)
	}
	return n
}

func appendNumber(b []byte, n, size int) []byte {
	for i := range size {
		b = append(b, uint8(n>>(8*i)))
	}
	return b
}

func slotOf(sector []byte, i int) []byte { return sector[slotAt(i):slotAt(i+1)] }

// usedSlots returns the number of slots up to the last one that is not free.
func usedSlots(sector []byte) int {
	n := slotsIn(len(sector))
	for n > 0 && isErased(slotOf(sector, n-1)) {
		n--
	}
	return n
}

// eventsIn returns the events of the valid slots.
func eventsIn(sector []byte) []api.Event {
	var l []api.Event
	for i := range slotsIn(len(sector)) {
		if e, ok := decodeSlot(slotOf(sector, i)); ok {
			l = append(l, e)
		}
	}
	return l
}

// encodeSlot returns the slot of a valid event.
func encodeSlot(e api.Event) []byte {
	b, _ := event.Encode(e)
	return append(b, done)
}

// decodeSlot returns the event of a slot, and whether the slot is valid.
func decodeSlot(slot []byte) (api.Event, bool) {
	e, err := event.Decode(slot[:eventSize])
	return e, slot[eventSize] == done && err == api.OK && e.ID != 0
}
