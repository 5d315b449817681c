package event_test

import (
	"encoding/binary"
	"encoding/hex"
	"fmt"
	"math/big"
	"math/rand"
	"regexp"
	"strings"

	"baseboard/api"
)

// known are valid events whose bytes and texts were written down by hand.
var known = []struct {
	e    api.Event
	b    []byte
	text string
}{
	{
		api.Event{},
		[]byte{0, 0, 2, 0, 0, 0, 0, 0, 0, 4, 0, 0, 0, 0, 0, 0},
		"0 0 0 0 0 0 + 000000 other",
	},
	{
		api.Event{Generator: 32, SensorType: 1, Sensor: 5, Type: 1, Data: [3]uint8{0x59, 0x57, 0x50}},
		[]byte{0, 0, 2, 0, 0, 0, 0, 0x20, 0, 4, 1, 5, 1, 0x59, 0x57, 0x50},
		"0 0 32 1 5 1 + 595750 threshold",
	},
	{
		api.Event{ID: 1, Time: 1, Generator: 1, SensorType: 1, Sensor: 1, Type: 1, Deassert: true, Data: [3]uint8{1, 1, 1}},
		[]byte{1, 0, 2, 1, 0, 0, 0, 1, 0, 4, 1, 1, 0x81, 1, 1, 1},
		"1 1 1 1 1 1 - 010101 threshold",
	},
	{
		api.Event{ID: 0x1234, Time: 0x56789ABC, Generator: 0xDEF0, SensorType: 0x11, Sensor: 0x22, Type: 0x33, Data: [3]uint8{0xAB, 0xCD, 0xEF}},
		[]byte{0x34, 0x12, 2, 0xBC, 0x9A, 0x78, 0x56, 0xF0, 0xDE, 4, 0x11, 0x22, 0x33, 0xAB, 0xCD, 0xEF},
		"4660 1450744508 57072 17 34 51 + abcdef other",
	},
	{
		api.Event{ID: 65534, Time: 4294967294, Generator: 65535, SensorType: 255, Sensor: 255, Type: 0x7F, Deassert: true, Data: [3]uint8{255, 255, 255}},
		[]byte{0xFE, 0xFF, 2, 0xFE, 0xFF, 0xFF, 0xFF, 0xFF, 0xFF, 4, 0xFF, 0xFF, 0xFF, 0xFF, 0xFF, 0xFF},
		"65534 4294967294 65535 255 255 127 - ffffff other",
	},
	{
		api.Event{ID: 256, Time: 1 << 24, Generator: 32, SensorType: 0x25, Sensor: 7, Type: 0x6F, Data: [3]uint8{14, 0xFF, 0xFF}},
		[]byte{0, 1, 2, 0, 0, 0, 1, 0x20, 0, 4, 0x25, 7, 0x6F, 0x0E, 0xFF, 0xFF},
		"256 16777216 32 37 7 111 + 0effff state",
	},
	{
		api.Event{ID: 9, Time: 10, Generator: 100, SensorType: 99, Sensor: 200, Type: 0x6F, Deassert: true, Data: [3]uint8{0x0F, 0xF0, 0x0A}},
		[]byte{9, 0, 2, 10, 0, 0, 0, 100, 0, 4, 99, 200, 0xEF, 0x0F, 0xF0, 0x0A},
		"9 10 100 99 200 111 - 0ff00a state",
	},
	{
		api.Event{ID: 255, Time: 1<<32 - 2 - 0xFF, Generator: 255, SensorType: 0, Sensor: 0, Type: 2, Deassert: true, Data: [3]uint8{0x50, 0, 0x10}},
		[]byte{0xFF, 0, 2, 0xFF, 0xFE, 0xFF, 0xFF, 0xFF, 0, 4, 0, 0, 0x82, 0x50, 0, 0x10},
		"255 4294967039 255 0 0 2 - 500010 other",
	},
}

// valid follows the chapter's section Types and knows nothing of how Valid works.
func valid(e api.Event) bool {
	return e.ID != 65535 && e.Time != 4294967295 && e.Type < 128
}

// encoded are the bytes of a valid event.
func encoded(e api.Event) []byte {
	b := make([]byte, 16)
	binary.LittleEndian.PutUint16(b[0:], e.ID)
	b[2] = 2
	binary.LittleEndian.PutUint32(b[3:], e.Time)
	binary.LittleEndian.PutUint16(b[7:], e.Generator)
	b[9] = 4
	b[10], b[11], b[12] = e.SensorType, e.Sensor, e.Type
	if e.Deassert {
		b[12] += 128
	}
	copy(b[13:], e.Data[:])
	return b
}

// wantDecoded is what P7.2 says of the bytes.
func wantDecoded(b []byte) (api.Event, api.Errno) {
	if len(b) < 16 {
		return api.Event{}, api.ErrTruncated
	}
	if len(b) > 16 || b[2] != 2 || b[9] != 4 {
		return api.Event{}, api.ErrForm
	}
	e := api.Event{
		ID:         binary.LittleEndian.Uint16(b[0:]),
		Time:       binary.LittleEndian.Uint32(b[3:]),
		Generator:  binary.LittleEndian.Uint16(b[7:]),
		SensorType: b[10],
		Sensor:     b[11],
		Type:       b[12] % 128,
		Deassert:   b[12] >= 128,
	}
	copy(e.Data[:], b[13:])
	if !valid(e) {
		return api.Event{}, api.ErrInvalid
	}
	return e, api.OK
}

// formatted is the text of a valid event.
func formatted(e api.Event) string {
	sign := "+"
	if e.Deassert {
		sign = "-"
	}
	word := map[uint8]string{0x01: "threshold", 0x6F: "state"}[e.Type]
	if word == "" {
		word = "other"
	}
	return fmt.Sprintf("%d %d %d %d %d %d %s %02x%02x%02x %s", e.ID, e.Time, e.Generator, e.SensorType, e.Sensor, e.Type, sign, e.Data[0], e.Data[1], e.Data[2], word)
}

const number = `(0|[1-9][0-9]{0,9}) `

var form = regexp.MustCompile(`\A` + strings.Repeat(number, 6) + `([-+]) ([0-9a-f]{6}) (threshold|state|other)\z`)

// wantParsed follows P7.4 by a regular expression and by integers of any size.
func wantParsed(s string) (api.Event, api.Errno) {
	part := form.FindStringSubmatch(s)
	if part == nil {
		return api.Event{}, api.ErrForm
	}
	var n [6]int64
	for i, greatest := range []int64{65535, 4294967295, 65535, 255, 255, 255} {
		v, _ := new(big.Int).SetString(part[1+i], 10)
		if v.Cmp(big.NewInt(greatest)) > 0 {
			return api.Event{}, api.ErrRange
		}
		n[i] = v.Int64()
	}
	e := api.Event{
		ID:         uint16(n[0]),
		Time:       uint32(n[1]),
		Generator:  uint16(n[2]),
		SensorType: uint8(n[3]),
		Sensor:     uint8(n[4]),
		Type:       uint8(n[5]),
		Deassert:   part[7] == "-",
	}
	data, _ := hex.DecodeString(part[8])
	copy(e.Data[:], data)
	if !strings.HasSuffix(formatted(e), " "+part[9]) {
		return api.Event{}, api.ErrForm
	}
	if !valid(e) {
		return api.Event{}, api.ErrInvalid
	}
	return e, api.OK
}

// edges returns events of each combination of IDs, times and types that the chapter names, with and without Deassert; most of them are not valid.
func edges() []api.Event {
	var l []api.Event
	for _, id := range []uint16{0, 1, 255, 256, 65533, 65534, 65535} {
		for _, time := range []uint32{0, 1, 65535, 1 << 31, 4294967293, 4294967294, 4294967295} {
			for _, eventType := range []uint8{0, 1, 2, 0x6E, 0x6F, 0x70, 0x7E, 0x7F, 0x80, 0x81, 0xEF, 0xFE, 0xFF} {
				for _, deassert := range []bool{false, true} {
					l = append(l, api.Event{ID: id, Time: time, Generator: 32, SensorType: 3, Sensor: 4, Type: eventType, Deassert: deassert, Data: [3]uint8{5, 0xB6, 0x7C}})
				}
			}
		}
	}
	return l
}

// draw returns an event, which is often one of those with a word of their own, and most often valid.
func draw(r *rand.Rand) api.Event {
	e := api.Event{
		ID:         uint16(r.Uint32() >> r.Intn(32)),
		Time:       r.Uint32() >> r.Intn(32),
		Generator:  uint16(r.Uint32() >> r.Intn(32)),
		SensorType: uint8(r.Intn(256)),
		Sensor:     uint8(r.Intn(256) >> r.Intn(8)),
		Type:       []uint8{0x01, 0x6F, uint8(r.Intn(128)), uint8(r.Intn(128)), uint8(r.Intn(256))}[r.Intn(5)],
		Deassert:   r.Intn(2) == 0,
	}
	r.Read(e.Data[:])
	return e
}

// drawValid returns n events that are valid.
func drawValid(seed int64, n int) []api.Event {
	r := rand.New(rand.NewSource(seed))
	var l []api.Event
	for len(l) < n {
		if e := draw(r); valid(e) {
			l = append(l, e)
		}
	}
	return l
}

// samples returns valid events: known ones, edges, drawn ones, and those that differ from an event in one field, which takes each of its values.
func samples() []api.Event {
	var l []api.Event
	for _, x := range known {
		l = append(l, x.e)
	}
	for _, e := range edges() {
		if valid(e) {
			l = append(l, e)
		}
	}
	base := api.Event{ID: 77, Time: 88888, Generator: 999, SensorType: 11, Sensor: 22, Type: 1, Data: [3]uint8{0x44, 0x55, 0x66}}
	for x := range 256 {
		for _, deassert := range []bool{false, true} {
			e := base
			e.Deassert = deassert
			for i := range e.Data {
				c := e
				c.Data[i] = uint8(x)
				l = append(l, c)
			}
			c := e
			c.SensorType = uint8(x)
			l = append(l, c)
			c = e
			c.Sensor = uint8(x)
			l = append(l, c)
			if x < 128 {
				e.Type = uint8(x)
				l = append(l, e)
			}
		}
	}
	for bit := range 32 {
		for _, time := range []uint32{1 << bit, 1<<bit - 1, 4294967294 - 1<<bit} {
			e := base
			e.Time = time
			l = append(l, e)
		}
	}
	for _, v := range []uint16{0, 1, 9, 10, 99, 100, 255, 256, 511, 999, 1000, 4095, 9999, 10000, 32767, 32768, 65279, 65534} {
		e := base
		e.ID = v
		l = append(l, e)
		e.ID, e.Generator = 77, v
		l = append(l, e)
		e.Generator = v + 1
		l = append(l, e)
	}
	return append(l, drawValid(71, 5000)...)
}
