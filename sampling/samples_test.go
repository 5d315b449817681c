package sampling_test

import (
	"math"
	"math/rand"
	"slices"
	"testing"

	"baseboard/api"
	"baseboard/sampling"
	"baseboard/sensor"
)

// with returns an analog sensor whose filter has this width.
func with(signed bool, samples int) api.Sensor {
	return api.Sensor{
		Number: 5, Type: 1, Unit: 7, Name: "Inlet", Entity: api.Entity{ID: 0x37, Instance: 2},
		Conversion: api.Conversion{Form: api.FormLinear, Signed: signed, M: 1}, Samples: samples,
	}
}

// discrete returns a discrete sensor.
func discrete() api.Sensor {
	return api.Sensor{Number: 9, Type: 8, Name: "Fan 3", Discrete: true, States: 0x7FFF, Assert: 0x1234, Deassert: 0x4321, Samples: 1}
}

// limited returns an analog sensor with all thresholds and a table of points.
func limited(signed bool, samples int) api.Sensor {
	s := with(signed, samples)
	s.Conversion = api.Conversion{Form: api.FormTable, Signed: signed, Points: []api.Point{{Raw: 1, Value: 5}, {Raw: 9, Value: -5}}}
	s.Limits = api.Thresholds{Mask: 0x3F, Raw: [6]uint8{20, 10, 0, 40, 50, 60}}
	s.HystLower, s.HystUpper, s.Assert, s.Deassert, s.HostOn = 2, 3, 0x3F, 0x15, true
	return s
}

var widths = []int{1, 3, 5}

// sensors returns valid sensors, analog ones of each sign and each width, and discrete ones.
func sensors() []api.Sensor {
	none := discrete()
	none.States, none.Assert, none.Deassert, none.HostOn = 0, 0, 0, true
	l := []api.Sensor{discrete(), none}
	for _, n := range widths {
		l = append(l, with(false, n), with(true, n), limited(false, n), limited(true, n))
	}
	return l
}

// faults returns sensors that are not valid; most of them break one condition.
func faults() []api.Sensor {
	l := []api.Sensor{{}, {Samples: 1}, {Discrete: true}, {Discrete: true, Samples: 5}, {Name: "D", Samples: 3}, {Name: "D", Discrete: true}}
	add := func(change func(s *api.Sensor)) {
		for _, n := range widths {
			for _, s := range []api.Sensor{with(false, n), limited(true, n)} {
				change(&s)
				l = append(l, s)
			}
		}
	}
	for _, name := range []string{"", "12345678901234567", "\x1F", "a\x7F"} {
		add(func(s *api.Sensor) { s.Name = name })
	}
	for _, n := range []int{math.MinInt, -5, -1, 0, 2, 4, 6, 7, 256, 257, 1<<32 + 1, math.MaxInt} {
		add(func(s *api.Sensor) { s.Samples = n })
	}
	for _, c := range []api.Conversion{{}, {Signed: true}, {Form: -1}, {Form: 6}, {Form: 1, M: 512}, {Form: 5}, {Form: 5, Points: []api.Point{{}}}} {
		add(func(s *api.Sensor) { s.Conversion = c })
	}
	add(func(s *api.Sensor) { s.Limits.Mask |= 0x40 })
	add(func(s *api.Sensor) { s.Limits = api.Thresholds{Mask: 9, Raw: [6]uint8{0: 50, 3: 50}} })
	add(func(s *api.Sensor) { s.Limits.Mask, s.Limits.Raw = 0, [6]uint8{5: 1} })
	add(func(s *api.Sensor) { s.Assert |= 0x40 })
	add(func(s *api.Sensor) { s.States = 1 })
	add(func(s *api.Sensor) { s.Discrete = true })
	for _, change := range []func(s *api.Sensor){
		func(s *api.Sensor) { s.Name = "" },
		func(s *api.Sensor) { s.Samples = 0 },
		func(s *api.Sensor) { s.Samples = 3 },
		func(s *api.Sensor) { s.Samples = 5 },
		func(s *api.Sensor) { s.Conversion.Signed = true },
		func(s *api.Sensor) { s.HystLower = 1 },
		func(s *api.Sensor) { s.States = 0x8000 },
		func(s *api.Sensor) { s.Discrete = false },
	} {
		s := discrete()
		change(&s)
		l = append(l, s)
	}
	return l
}

// counts are numbers of missing samples, most of which a filter cannot have.
var counts = []int{
	0, 1, 2, 3, -1, 4, 5, 6, -2, -3, -4, 255, 256, 257, -256, 1 << 31, 1 << 32, 1<<32 + 1, 1<<32 + 2, 1<<32 + 3, -1 << 32,
	math.MinInt, math.MinInt + 1, math.MaxInt - 1, math.MaxInt,
}

// window returns a window with n elements that differ from each other if n is at most 256.
func window(n int) []uint8 {
	var l []uint8
	for i := range n {
		l = append(l, uint8(0x70+7*i))
	}
	return l
}

// edges are raw readings at which an order of numbers could go wrong.
var edges = []uint8{0x00, 0x01, 0x02, 0x10, 0x7E, 0x7F, 0x80, 0x81, 0x82, 0xF0, 0xFE, 0xFF}

// windows calls f with every window of n of these elements, in every order.
func windows(n int, elements []uint8, f func(w []uint8)) {
	w := make([]uint8, n)
	var set func(i int)
	set = func(i int) {
		if i == n {
			f(w)
			return
		}
		for _, x := range elements {
			w[i] = x
			set(i + 1)
		}
	}
	set(0)
}

// number is what convert.Number is to return.
func number(signed bool, raw uint8) int {
	if signed && raw >= 128 {
		return int(raw) - 256
	}
	return int(raw)
}

// wantValid is what P14.1 says of Valid.
func wantValid(s api.Sensor, f api.Filter) bool {
	switch f.Missing {
	case 0, 1, 2:
		return sensor.Valid(s) && len(f.Window) <= s.Samples
	case 3:
		return sensor.Valid(s) && len(f.Window) == 0
	}
	return false
}

// stepped is what Step returns.
type stepped struct {
	f api.Filter
	e api.Errno
}

// wantStep is what P14.1 says of Step.
func wantStep(s api.Sensor, f api.Filter, raw uint8, ok bool) stepped {
	var x stepped
	switch {
	case !wantValid(s, f):
		x.e = api.ErrInvalid
	case ok:
		for i, element := range f.Window {
			if i > 0 || len(f.Window) < s.Samples {
				x.f.Window = append(x.f.Window, element)
			}
		}
		x.f.Window = append(x.f.Window, raw)
	case f.Missing >= 2:
		x.f.Missing = 3
	default:
		x.f.Window = append(x.f.Window, f.Window...)
		x.f.Missing = f.Missing + 1
	}
	return x
}

// middle returns the element that has at most half of the others below it, and at most half of them above it.
func middle(signed bool, w []uint8) uint8 {
	for _, x := range w {
		below, above := 0, 0
		for _, y := range w {
			switch d := number(signed, y) - number(signed, x); {
			case d < 0:
				below++
			case d > 0:
				above++
			}
		}
		if 2*below < len(w) && 2*above < len(w) {
			return x
		}
	}
	panic("no element is in the middle")
}

// reading is what Reading returns.
type reading struct {
	raw uint8
	ok  bool
}

// wantReading is what P14.2 says.
func wantReading(s api.Sensor, f api.Filter) reading {
	if !wantValid(s, f) || len(f.Window) != s.Samples {
		return reading{}
	}
	return reading{middle(s.Conversion.Signed, f.Window), true}
}

func runStep(s api.Sensor, f api.Filter, raw uint8, ok bool) stepped {
	var x stepped
	x.f, x.e = sampling.Step(s, f, raw, ok)
	return x
}

func runReading(s api.Sensor, f api.Filter) reading {
	var x reading
	x.raw, x.ok = sampling.Reading(s, f)
	return x
}

func equal(x, y stepped) bool {
	return slices.Equal(x.f.Window, y.f.Window) && x.f.Missing == y.f.Missing && x.e == y.e
}

func checkValid(t *testing.T, s api.Sensor, f api.Filter, want bool) {
	t.Helper()
	if got := sampling.Valid(s, f); got != want {
		t.Errorf("Valid of %+v and %v: %v", s, f, got)
	}
}

func checkStep(t *testing.T, s api.Sensor, f api.Filter, raw uint8, ok bool, want stepped) {
	t.Helper()
	if got := runStep(s, f, raw, ok); !equal(got, want) {
		t.Errorf("Step of %+v and %v with %02X, %v: %v, not %v", s, f, raw, ok, got, want)
	}
}

func checkReading(t *testing.T, s api.Sensor, f api.Filter, want reading) {
	t.Helper()
	if got := runReading(s, f); got != want {
		t.Errorf("Reading of %+v and %v: %v, not %v", s, f, got, want)
	}
}

// drawSensor returns a valid sensor.
func drawSensor(r *rand.Rand) api.Sensor {
	l := sensors()
	s := l[r.Intn(len(l))]
	s.Number, s.Type, s.Unit, s.HostOn = uint8(r.Intn(256)), uint8(r.Intn(256)), uint8(r.Intn(256)), r.Intn(2) == 0
	if s.Discrete || s.Conversion.Form == api.FormTable {
		return s
	}
	s.Conversion.Form = 1 + r.Intn(4)
	s.Conversion.M, s.Conversion.B, s.Conversion.K1, s.Conversion.K2 = r.Intn(1024)-512, r.Intn(1024)-512, r.Intn(7)-3, r.Intn(7)-3
	return s
}

// drawWindow returns n elements, which are close to each other in many cases.
func drawWindow(r *rand.Rand, n int) []uint8 {
	var l []uint8
	first, spread := r.Intn(256), 1+r.Intn(256)>>r.Intn(9)
	for range n {
		l = append(l, uint8(first+r.Intn(spread)))
	}
	return l
}

// drawFilter returns a filter of a sensor whose width is n.
func drawFilter(r *rand.Rand, n int) api.Filter {
	missing := r.Intn(4)
	if missing == 3 {
		return api.Filter{Missing: 3}
	}
	return api.Filter{Window: drawWindow(r, r.Intn(n+1)), Missing: missing}
}

// call are the arguments of all functions.
type call struct {
	s   api.Sensor
	f   api.Filter
	raw uint8
	ok  bool
}

// drawCalls returns calls; in most of them the filter is one of the sensor.
func drawCalls(r *rand.Rand, n int) []call {
	bad := faults()
	var l []call
	for range n {
		s := drawSensor(r)
		c := call{s, drawFilter(r, s.Samples), uint8(r.Intn(256)), r.Intn(3) > 0}
		if r.Intn(2) == 0 {
			c.f = api.Filter{Window: drawWindow(r, s.Samples), Missing: r.Intn(3)}
		}
		switch r.Intn(12) {
		case 0:
			c.s = bad[r.Intn(len(bad))]
		case 1:
			c.f.Window = drawWindow(r, s.Samples+1+r.Intn(300)>>r.Intn(9))
		case 2:
			c.f.Missing = counts[r.Intn(len(counts))]
		}
		l = append(l, c)
	}
	return l
}

// result is what all functions return.
type result struct {
	valid   bool
	step    stepped
	reading reading
}

func run(c call) result {
	return result{sampling.Valid(c.s, c.f), runStep(c.s, c.f, c.raw, c.ok), runReading(c.s, c.f)}
}

// want is what the chapter says of a call.
func want(c call) result {
	return result{wantValid(c.s, c.f), wantStep(c.s, c.f, c.raw, c.ok), wantReading(c.s, c.f)}
}

func same(x, y result) bool {
	return x.valid == y.valid && equal(x.step, y.step) && x.reading == y.reading
}

func check(t *testing.T, c call) {
	t.Helper()
	if got, wanted := run(c), want(c); !same(got, wanted) {
		t.Errorf("%+v: %+v, not %+v", c, got, wanted)
	}
}
