package sensor_test

import (
	"bytes"
	"encoding/binary"
	"math/rand"
	"reflect"
	"slices"
	"strings"

	"baseboard/api"
	"baseboard/convert"
)

const limit = 1_000_000_000_000

// analog returns an analog sensor with all thresholds.
func analog() api.Sensor {
	return api.Sensor{
		Number: 5, Type: 1, Unit: 7, Name: "Inlet", Entity: api.Entity{ID: 0x37, Instance: 2},
		Conversion: api.Conversion{Form: api.FormLinear, M: 5, B: -10, K1: 1, K2: -2},
		Limits:     api.Thresholds{Mask: 0x3F, Raw: [6]uint8{30, 20, 10, 80, 90, 100}},
		HystLower:  2, HystUpper: 3, Assert: 0x3F, Deassert: 0x15, HostOn: true, Samples: 3,
	}
}

// discrete returns a discrete sensor with all states.
func discrete() api.Sensor {
	return api.Sensor{
		Number: 9, Type: 8, Unit: 6, Name: "Slot 3 fan~", Entity: api.Entity{ID: 0x0A, Instance: 0x60}, Discrete: true,
		States: 0x7FFF, Assert: 0x1234, Deassert: 0x4321, HostOn: true, Samples: 1,
	}
}

// table returns a table with n points, whose numbers begin with that of the raw reading.
func table(raw uint8, n int) api.Conversion {
	c := api.Conversion{Form: api.FormTable}
	for i := range n {
		c.Points = append(c.Points, api.Point{Raw: raw + uint8(i), Value: int64(i*i) * 1_000_000})
	}
	return c
}

// changed returns the sensor after a change.
func changed(s api.Sensor, change func(s *api.Sensor)) api.Sensor {
	s = clone(s)
	change(&s)
	return s
}

// clone returns a sensor with points of its own.
func clone(s api.Sensor) api.Sensor {
	s.Conversion.Points = slices.Clone(s.Conversion.Points)
	return s
}

func equal(a, b api.Sensor) bool {
	same := slices.Equal(a.Conversion.Points, b.Conversion.Points)
	a.Conversion.Points, b.Conversion.Points = nil, nil
	return same && reflect.DeepEqual(a, b)
}

// known are sensors with their bytes, which were written down field by field, without the functions below.
var known = []struct {
	s api.Sensor
	b []byte
}{
	{
		api.Sensor{Number: 2, Type: 0x25, Name: "P", Discrete: true, States: 1, Assert: 1, Deassert: 1, Samples: 1},
		[]byte{0x01, 0x02, 0x25, 0, 0, 0, 0x05, 0x01, 0x50, 1, 0, 1, 0, 1, 0, 0x7F},
	},
	{
		discrete(),
		[]byte{0x01, 0x09, 0x08, 0x06, 0x0A, 0x60, 0x07, 0x0B, 'S', 'l', 'o', 't', ' ', '3', ' ', 'f', 'a', 'n', '~', 0xFF, 0x7F, 0x34, 0x12, 0x21, 0x43, 0x7C},
	},
	{
		api.Sensor{Number: 0xFF, Type: 0xFE, Unit: 0xFD, Name: " ", Entity: api.Entity{ID: 0xFC, Instance: 0xFB}, Discrete: true, States: 0x4080, Deassert: 0x4000, Samples: 1},
		[]byte{0x01, 0xFF, 0xFE, 0xFD, 0xFC, 0xFB, 0x05, 0x01, 0x20, 0x80, 0x40, 0, 0, 0, 0x40, 0xE8},
	},
	{
		api.Sensor{Name: "0123456789ABCDEF", Discrete: true, Samples: 1},
		[]byte{0x01, 0, 0, 0, 0, 0, 0x05, 0x10, '0', '1', '2', '3', '4', '5', '6', '7', '8', '9', 'A', 'B', 'C', 'D', 'E', 'F', 0, 0, 0, 0, 0, 0, 0x48},
	},
	{
		analog(),
		[]byte{
			0x01, 0x05, 0x01, 0x07, 0x37, 0x02, 0x0E, 0x05, 'I', 'n', 'l', 'e', 't',
			0x01, 0x05, 0, 0xF6, 0xFF, 0x01, 0xFE, 0x3F, 30, 20, 10, 80, 90, 100, 2, 3, 0x3F, 0, 0x15, 0, 0xCE,
		},
	},
	{
		api.Sensor{Name: "v", Conversion: api.Conversion{Form: api.FormRoot}, Samples: 1},
		[]byte{
			0x01, 0, 0, 0, 0, 0, 0x04, 0x01, 'v',
			0x04, 0, 0, 0, 0, 0, 0, 0, 0, 0, 0, 0, 0, 0, 0, 0, 0, 0, 0, 0, 0x80,
		},
	},
	{
		api.Sensor{
			Number: 0x11, Type: 0x22, Unit: 0x33, Name: "~ ", Entity: api.Entity{ID: 0x44, Instance: 0x55},
			Conversion: api.Conversion{Form: api.FormTable, Signed: true, Points: []api.Point{{Raw: 0x80, Value: -2}, {Raw: 0x7F, Value: 0x0102030405}}},
			Limits:     api.Thresholds{Mask: 0x2A, Raw: [6]uint8{1: 0x9C, 3: 0xFF, 5: 0x7F}},
			HystLower:  0xFF, HystUpper: 0xFE, Assert: 0x08, Deassert: 0x22, Samples: 5,
		},
		[]byte{
			0x01, 0x11, 0x22, 0x33, 0x44, 0x55, 0x14, 0x02, '~', ' ',
			0x85, 2, 0x80, 0xFE, 0xFF, 0xFF, 0xFF, 0xFF, 0xFF, 0x7F, 5, 4, 3, 2, 1, 0,
			0x2A, 0, 0x9C, 0, 0xFF, 0, 0x7F, 0xFF, 0xFE, 0x08, 0, 0x22, 0, 0x53,
		},
	},
}

// broken names the conditions of the chapter's section Types that a sensor breaks.
func broken(s api.Sensor) []string {
	var l []string
	add := func(holds bool, name string) {
		if !holds {
			l = append(l, name)
		}
	}
	add(len(s.Name) >= 1 && len(s.Name) <= 16, "length")
	add(!strings.ContainsFunc(latin(s.Name), func(c rune) bool { return c < ' ' || c > '~' }), "characters")
	add(slices.Contains([]int{1, 3, 5}, s.Samples), "samples")
	within := func(bits, mask int) bool { return bits|mask == mask }
	if s.Discrete {
		c := s.Conversion
		points := c.Points
		c.Points = nil
		add(len(points) == 0 && reflect.ValueOf(c).IsZero(), "conversion")
		add(s.Limits.Mask == 0, "mask")
		add(s.Limits.Raw == [6]uint8{}, "raw")
		add(s.HystLower == 0, "lower hysteresis")
		add(s.HystUpper == 0, "upper hysteresis")
		add(!slices.Contains([]int{3, 5}, s.Samples), "one sample")
		add(s.States < 0x8000, "states")
		add(within(int(s.Assert), int(s.States)), "assert")
		add(within(int(s.Deassert), int(s.States)), "deassert")
		return l
	}
	add(convert.Valid(s.Conversion), "conversion")
	add(s.Limits.Mask < 64, "mask")
	add(absentAreZero(s.Limits), "raw")
	add(within(int(s.Assert), int(s.Limits.Mask)), "assert")
	add(within(int(s.Deassert), int(s.Limits.Mask)), "deassert")
	add(s.States == 0, "states")
	lower, upper := present(s, 0), present(s, 3)
	slices.Reverse(lower)
	add(slices.IsSorted(lower), "lower")
	add(slices.IsSorted(upper), "upper")
	add(len(lower) == 0 || len(upper) == 0 || slices.Max(lower) < slices.Min(upper), "sides")
	return l
}

// latin returns a string with one rune for each byte.
func latin(s string) string {
	var l []rune
	for i := range len(s) {
		l = append(l, rune(s[i]))
	}
	return string(l)
}

func absentAreZero(l api.Thresholds) bool {
	for i, bit := range []uint8{1, 2, 4, 8, 16, 32} {
		if l.Mask&bit == 0 && l.Raw[i] != 0 {
			return false
		}
	}
	return true
}

// present returns the numbers of the thresholds of a side, which begins with an index.
func present(s api.Sensor, first int) []int {
	var l []int
	for i := first; i < first+3; i++ {
		if s.Limits.Mask/(1<<i)%2 == 1 {
			l = append(l, numberOf(s.Conversion.Signed, s.Limits.Raw[i]))
		}
	}
	return l
}

func numberOf(signed bool, raw uint8) int {
	if signed && raw >= 128 {
		return int(raw) - 256
	}
	return int(raw)
}

func valid(s api.Sensor) bool { return len(broken(s)) == 0 }

// rest is what follows the conversion of an analog sensor.
type rest struct {
	Mask                 uint8
	Raw                  [6]uint8
	HystLower, HystUpper uint8
	Assert, Deassert     uint16
}

// states is what follows the name of a discrete sensor.
type states struct{ States, Assert, Deassert uint16 }

// payload is an encoding without its sum; the conversion of an analog sensor has to be valid, but not the sensor.
func payload(s api.Sensor) []byte {
	var b bytes.Buffer
	head := []byte{1, s.Number, s.Type, s.Unit, s.Entity.ID, s.Entity.Instance, byte(s.Samples * 4), byte(len(s.Name))}
	if s.HostOn {
		head[6] += 2
	}
	if s.Discrete {
		head[6]++
	}
	b.Write(head)
	b.WriteString(s.Name)
	if s.Discrete {
		binary.Write(&b, binary.LittleEndian, states{s.States, s.Assert, s.Deassert})
		return b.Bytes()
	}
	c, e := convert.Encode(s.Conversion)
	if e != api.OK {
		panic("a payload with a conversion that is not valid")
	}
	b.Write(c)
	binary.Write(&b, binary.LittleEndian, rest{s.Limits.Mask, s.Limits.Raw, s.HystLower, s.HystUpper, s.Assert, s.Deassert})
	return b.Bytes()
}

// sealed returns bytes with the sum behind them.
func sealed(b []byte) []byte {
	sum := 0
	for _, x := range b {
		sum += int(x)
	}
	return append(slices.Clone(b), byte(256-sum%256))
}

func encoded(s api.Sensor) []byte { return sealed(payload(s)) }

// wantDecoded is what P10.3 says of the bytes.
func wantDecoded(b []byte) (api.Sensor, api.Errno) {
	none := api.Sensor{}
	if len(b) < 9 {
		return none, api.ErrTruncated
	}
	last := len(b) - 1
	if !bytes.Equal(sealed(b[:last]), b) {
		return none, api.ErrChecksum
	}
	head, tail := b[:8], b[8:last]
	if head[0] != 1 || head[6] > 31 {
		return none, api.ErrForm
	}
	if len(tail) < int(head[7]) {
		return none, api.ErrTruncated
	}
	s := api.Sensor{Number: head[1], Type: head[2], Unit: head[3], Entity: api.Entity{ID: head[4], Instance: head[5]}}
	s.Name, tail = string(tail[:head[7]]), tail[head[7]:]
	s.Discrete, s.HostOn, s.Samples = head[6]%2 == 1, head[6]/2%2 == 1, int(head[6]/4)
	var analogRest rest
	var discreteRest states
	var into any = &discreteRest
	if !s.Discrete {
		c, n, e := convert.Decode(tail)
		if e != api.OK {
			return none, e
		}
		s.Conversion, tail, into = c, tail[n:], &analogRest
	}
	r := bytes.NewReader(tail)
	if binary.Read(r, binary.LittleEndian, into) != nil {
		return none, api.ErrTruncated
	}
	if r.Len() > 0 {
		return none, api.ErrForm
	}
	s.Limits = api.Thresholds{Mask: analogRest.Mask, Raw: analogRest.Raw}
	s.HystLower, s.HystUpper, s.States = analogRest.HystLower, analogRest.HystUpper, discreteRest.States
	s.Assert, s.Deassert = analogRest.Assert|discreteRest.Assert, analogRest.Deassert|discreteRest.Deassert
	if !valid(s) {
		return none, api.ErrInvalid
	}
	return s, api.OK
}

// drawCommon returns what analog and discrete sensors have in common.
func drawCommon(r *rand.Rand) api.Sensor {
	name := make([]byte, 1+r.Intn(16))
	for i := range name {
		name[i] = byte(0x20 + r.Intn(0x5F))
	}
	return api.Sensor{
		Number: uint8(r.Intn(256)), Type: uint8(r.Intn(256)), Unit: uint8(r.Intn(256)), Name: string(name),
		Entity: api.Entity{ID: uint8(r.Intn(256)), Instance: uint8(r.Intn(256))},
		HostOn: r.Intn(2) == 0, Samples: 1,
	}
}

func drawDiscrete(r *rand.Rand) api.Sensor {
	s := drawCommon(r)
	s.Discrete = true
	s.States = uint16(r.Intn(0x8000))
	s.Assert = uint16(r.Intn(0x10000)) & s.States
	s.Deassert = uint16(r.Intn(0x10000)) & s.States
	return s
}

func drawConversion(r *rand.Rand) api.Conversion {
	c := api.Conversion{Form: 1 + r.Intn(4), Signed: r.Intn(2) == 0, M: r.Intn(1024) - 512, B: r.Intn(1024) - 512, K1: r.Intn(7) - 3, K2: r.Intn(7) - 3}
	if r.Intn(2) == 0 {
		return c
	}
	c = api.Conversion{Form: api.FormTable, Signed: c.Signed}
	numbers := r.Perm(256)[:2+r.Intn(11)]
	slices.Sort(numbers)
	for _, n := range numbers {
		if c.Signed {
			n -= 128
		}
		c.Points = append(c.Points, api.Point{Raw: uint8(n), Value: r.Int63n(2*limit+1) - limit})
	}
	return c
}

// drawAnalog returns an analog sensor; its thresholds are often close to one another.
func drawAnalog(r *rand.Rand) api.Sensor {
	s := drawCommon(r)
	s.Conversion = drawConversion(r)
	s.Samples = 1 + 2*r.Intn(3)
	s.HystLower, s.HystUpper = uint8(r.Intn(256)), uint8(r.Intn(256))
	for {
		s.Limits = drawLimits(r, s.Conversion.Signed)
		s.Assert = uint16(r.Intn(64)) & uint16(s.Limits.Mask)
		s.Deassert = uint16(r.Intn(64)) & uint16(s.Limits.Mask)
		if valid(s) {
			return s
		}
	}
}

func drawLimits(r *rand.Rand, signed bool) api.Thresholds {
	spread := 2 + r.Intn(255)
	least := r.Intn(257 - spread)
	if signed {
		least -= 128
	}
	var numbers []int
	for range 6 {
		numbers = append(numbers, least+r.Intn(spread))
	}
	slices.Sort(numbers)
	slices.Reverse(numbers[:3])
	l := api.Thresholds{Mask: uint8(r.Intn(64))}
	for i, n := range numbers {
		if l.Mask>>i&1 == 1 {
			l.Raw[i] = uint8(n)
		}
	}
	return l
}

// drawValid returns n sensors that are valid, half of them analog.
func drawValid(seed int64, n int) []api.Sensor {
	r := rand.New(rand.NewSource(seed))
	var l []api.Sensor
	for len(l) < n {
		l = append(l, drawAnalog(r), drawDiscrete(r))
	}
	return l[:n]
}

// samples returns valid sensors of all kinds.
func samples() []api.Sensor {
	var l []api.Sensor
	for _, x := range known {
		l = append(l, x.s)
	}
	for n := range 17 {
		for _, s := range []api.Sensor{analog(), discrete()} {
			s.Name = strings.Repeat("x", max(n, 1))
			l = append(l, s)
		}
	}
	for n := 2; n <= api.MaxPoints; n++ {
		for _, signed := range []bool{false, true} {
			s := analog()
			s.Conversion = table(uint8(3*n), n)
			s.Conversion.Signed = signed
			l = append(l, s)
		}
	}
	return append(l, drawValid(101, 3000)...)
}

// fault is a sensor that breaks one condition, which is named, and no other one.
type fault struct {
	s         api.Sensor
	condition string
}

// faults returns sensors that break one condition each.
func faults() []fault {
	l := append(analogFaults(), discreteFaults()...)
	for _, s := range []api.Sensor{analog(), discrete()} {
		for _, name := range []string{"", "12345678901234567", strings.Repeat("n", 255), strings.Repeat("n", 256), strings.Repeat("n", 257), strings.Repeat("n", 512)} {
			l = append(l, fault{changed(s, func(s *api.Sensor) { s.Name = name }), "length"})
		}
		for _, name := range []string{"\x00", "\x1F", "\x7F", "\x80", "\xFF", "a\x1F", "\x7Fa", "a\nb", "123456789012345\x7F", "Z\u00FCrich"} {
			l = append(l, fault{changed(s, func(s *api.Sensor) { s.Name = name }), "characters"})
		}
		for _, n := range []int{-1 << 63, -5, -3, -1, 0, 2, 4, 6, 7, 8, 9, 255, 257, 259, 1<<32 + 1, 1<<63 - 1} {
			l = append(l, fault{changed(s, func(s *api.Sensor) { s.Samples = n }), "samples"})
		}
	}
	return l
}

func analogFaults() []fault {
	var l []fault
	add := func(condition string, change func(s *api.Sensor)) {
		l = append(l, fault{changed(analog(), change), condition})
	}
	for _, c := range []api.Conversion{
		{},
		{Form: -1}, {Form: 6}, {Form: 257},
		{Form: api.FormLinear, M: 512}, {Form: api.FormReciprocal, B: -513}, {Form: api.FormSquare, K1: 4}, {Form: api.FormRoot, K2: -4},
		{Form: api.FormLinear, M: 1, Points: []api.Point{{}, {Raw: 1}}},
		{Form: api.FormTable}, table(7, 1), table(7, 13), table(0xFF, 2),
		{Form: api.FormTable, M: 1, Points: []api.Point{{}, {Raw: 1}}},
		{Form: api.FormTable, Points: []api.Point{{}, {Raw: 1, Value: limit + 1}}},
	} {
		add("conversion", func(s *api.Sensor) { s.Conversion = c })
	}
	for _, mask := range []uint8{0x7F, 0xBF, 0xFF} {
		add("mask", func(s *api.Sensor) { s.Limits.Mask = mask })
	}
	for i := range 6 {
		for _, raw := range []uint8{1, 0x7F, 0x80, 0xFF} {
			add("raw", func(s *api.Sensor) {
				s.Limits.Mask &^= 1 << i
				s.Limits.Raw[i] = raw
				s.Assert, s.Deassert = 0, 0
			})
		}
		without := func(s *api.Sensor) {
			s.Limits.Mask &^= 1 << i
			s.Limits.Raw[i] = 0
		}
		add("assert", func(s *api.Sensor) { without(s); s.Assert, s.Deassert = 1<<i, 0 })
		add("deassert", func(s *api.Sensor) { without(s); s.Assert, s.Deassert = 0, 1<<i })
	}
	for bit := 6; bit < 16; bit++ {
		add("assert", func(s *api.Sensor) { s.Assert |= 1 << bit })
		add("deassert", func(s *api.Sensor) { s.Deassert |= 1 << bit })
	}
	for bit := range 16 {
		add("states", func(s *api.Sensor) { s.States = 1 << bit })
	}
	return append(l, orderFaults()...)
}

func orderFaults() []fault {
	var l []fault
	add := func(condition string, signed bool, mask uint8, raw ...uint8) {
		s := analog()
		s.Conversion.Signed = signed
		s.Limits.Mask = mask
		s.Limits.Raw = [6]uint8(raw)
		s.Assert, s.Deassert = uint16(mask), uint16(mask)
		l = append(l, fault{s, condition})
	}
	add("lower", false, 0x3F, 30, 31, 10, 80, 90, 100)
	add("lower", false, 0x3F, 30, 20, 21, 80, 90, 100)
	add("lower", false, 0x05, 30, 0, 31, 0, 0, 0)
	add("lower", false, 0x03, 0x7F, 0x80, 0, 0, 0, 0)
	add("lower", true, 0x03, 0x80, 0x7F, 0, 0, 0, 0)
	add("lower", true, 0x06, 0, 0xFE, 0xFF, 0, 0, 0)
	add("upper", false, 0x3F, 30, 20, 10, 91, 90, 100)
	add("upper", false, 0x3F, 30, 20, 10, 80, 101, 100)
	add("upper", false, 0x28, 0, 0, 0, 101, 0, 100)
	add("upper", false, 0x18, 0, 0, 0, 0x80, 0x7F, 0)
	add("upper", true, 0x18, 0, 0, 0, 0x7F, 0x80, 0)
	add("upper", true, 0x30, 0, 0, 0, 0, 0, 0xFF)
	add("sides", false, 0x3F, 80, 20, 10, 80, 90, 100)
	add("sides", false, 0x3F, 81, 20, 10, 80, 90, 100)
	for i := range 3 {
		for j := 3; j < 6; j++ {
			var raw [6]uint8
			raw[i], raw[j] = 50, 50
			add("sides", false, 1<<i|1<<j, raw[:]...)
			add("sides", true, 1<<i|1<<j, raw[:]...)
			add("sides", false, 1<<i|1<<j, 0, 0, 0, 0, 0, 0)
			raw[i], raw[j] = 0xFF, 0
			add("sides", false, 1<<i|1<<j, raw[:]...)
			raw[i], raw[j] = 0, 0xFF
			add("sides", true, 1<<i|1<<j, raw[:]...)
		}
	}
	return l
}

func discreteFaults() []fault {
	var l []fault
	add := func(condition string, change func(s *api.Sensor)) {
		l = append(l, fault{changed(discrete(), change), condition})
	}
	for _, c := range []api.Conversion{
		{Form: api.FormLinear}, {Form: -1}, {Signed: true}, {M: 1}, {B: -1}, {K1: 1}, {K2: -1}, {Points: []api.Point{{}}},
		{Form: api.FormLinear, M: 1}, table(7, 2), {M: 1 << 32}, {Form: 256},
	} {
		add("conversion", func(s *api.Sensor) { s.Conversion = c })
	}
	for bit := range 8 {
		add("mask", func(s *api.Sensor) { s.Limits.Mask = 1 << bit })
		add("lower hysteresis", func(s *api.Sensor) { s.HystLower = 1 << bit })
		add("upper hysteresis", func(s *api.Sensor) { s.HystUpper = 1 << bit })
		for i := range 6 {
			add("raw", func(s *api.Sensor) { s.Limits.Raw[i] = 1 << bit })
		}
	}
	for _, n := range []int{3, 5} {
		add("one sample", func(s *api.Sensor) { s.Samples = n })
	}
	for _, v := range []uint16{0x8000, 0x8001, 0xFFFF} {
		add("states", func(s *api.Sensor) { s.States, s.Assert, s.Deassert = v, 0, 0 })
	}
	add("states", func(s *api.Sensor) { s.States, s.Assert, s.Deassert = 0x8000, 0x8000, 0x8000 })
	for bit := range 16 {
		without := func(s *api.Sensor) { s.States &^= 1 << bit }
		add("assert", func(s *api.Sensor) { without(s); s.Assert, s.Deassert = 1<<bit, 0 })
		add("deassert", func(s *api.Sensor) { without(s); s.Assert, s.Deassert = 0, 1<<bit })
	}
	return l
}
