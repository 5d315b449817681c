package convert_test

import (
	"cmp"
	"math/big"
	"math/rand"
	"slices"

	"baseboard/api"
)

const (
	one   = 1_000_000
	limit = 1_000_000_000_000
)

func linear(form, m, b, k1, k2 int) api.Conversion {
	return api.Conversion{Form: form, M: m, B: b, K1: k1, K2: k2}
}

func table(points ...api.Point) api.Conversion {
	return api.Conversion{Form: api.FormTable, Points: points}
}

func signed(c api.Conversion) api.Conversion {
	c.Signed = true
	return c
}

// numbered returns a table with n points at the numbers 10, 20, and so on.
func numbered(n int) api.Conversion {
	c := api.Conversion{Form: api.FormTable}
	for i := range n {
		c.Points = append(c.Points, api.Point{Raw: uint8(10 + 10*i), Value: int64(i * i * one)})
	}
	return c
}

// clone returns a conversion with points of its own.
func clone(c api.Conversion) api.Conversion {
	c.Points = slices.Clone(c.Points)
	return c
}

func equal(a, b api.Conversion) bool {
	return a.Form == b.Form && a.Signed == b.Signed && a.M == b.M && a.B == b.B && a.K1 == b.K1 && a.K2 == b.K2 && slices.Equal(a.Points, b.Points)
}

var (
	drop   = table(api.Point{Raw: 0x7F, Value: 3}, api.Point{Raw: 0x80, Value: -3})
	level  = table(api.Point{Raw: 7, Value: -5}, api.Point{Raw: 200, Value: -5})
	zigzag = table(api.Point{Raw: 20, Value: -1}, api.Point{Raw: 27, Value: 1}, api.Point{Raw: 34, Value: -1})
	steps  = table(api.Point{Raw: 20, Value: 0}, api.Point{Raw: 50, Value: 10}, api.Point{Raw: 80, Value: 10}, api.Point{Raw: 90, Value: 1000})
	notch  = signed(table(api.Point{Raw: 0xFF, Value: 10}, api.Point{Raw: 0, Value: 0}, api.Point{Raw: 1, Value: 10}))
)

// tables are of values that rise, fall, do both, or are equal.
var tables = []api.Conversion{
	drop, level, zigzag, steps, notch,
	table(api.Point{Raw: 0, Value: 0}, api.Point{Raw: 10, Value: one}),
	table(api.Point{Raw: 100, Value: one}, api.Point{Raw: 103, Value: 0}),
	table(api.Point{Raw: 0, Value: -limit}, api.Point{Raw: 255, Value: limit}),
	table(api.Point{Raw: 0, Value: limit}, api.Point{Raw: 255, Value: -limit}),
	table(api.Point{Raw: 254, Value: -7}, api.Point{Raw: 255, Value: 7}),
	table(api.Point{Raw: 0, Value: -1}, api.Point{Raw: 255, Value: 0}),
	signed(table(api.Point{Raw: 0x80, Value: -limit}, api.Point{Raw: 0x7F, Value: limit})),
	signed(table(api.Point{Raw: 0x9C, Value: 1}, api.Point{Raw: 0x64, Value: 0})),
	numbered(2), numbered(3), numbered(11), numbered(12), signed(numbered(12)),
}

// edges are conversions of the forms 1 to 4 with numbers where a rule changes.
func edges() []api.Conversion {
	var l []api.Conversion
	for form := api.FormLinear; form <= api.FormRoot; form++ {
		for _, m := range []int{-512, -511, -1, 0, 1, 5, 511} {
			for _, b := range []int{-512, -10, 0, 1, 511} {
				for k1 := -3; k1 <= 3; k1++ {
					for k2 := -3; k2 <= 3; k2++ {
						c := linear(form, m, b, k1, k2)
						l = append(l, c, signed(c))
					}
				}
			}
		}
	}
	return l
}

func draw(r *rand.Rand) api.Conversion {
	c := linear(1+r.Intn(4), r.Intn(1024)-512, r.Intn(1024)-512, r.Intn(7)-3, r.Intn(7)-3)
	if r.Intn(2) == 0 {
		c = drawTable(r)
	}
	c.Signed = r.Intn(2) == 0
	order(c)
	return c
}

// drawTable returns a table whose points are not in order yet.
func drawTable(r *rand.Rand) api.Conversion {
	c := api.Conversion{Form: api.FormTable}
	spread := int64(1) << (1 + r.Intn(41))
	for _, raw := range r.Perm(256)[:2+r.Intn(11)] {
		v := min(r.Int63n(spread), limit)
		if r.Intn(2) == 0 {
			v = -v
		}
		c.Points = append(c.Points, api.Point{Raw: uint8(raw), Value: v})
	}
	return c
}

func order(c api.Conversion) {
	slices.SortFunc(c.Points, func(a, b api.Point) int {
		return cmp.Compare(wantNumber(c.Signed, a.Raw), wantNumber(c.Signed, b.Raw))
	})
}

// few are conversions of all kinds, for tests that take all of their readings.
func few() []api.Conversion {
	l := slices.Clone(tables)
	all := edges()
	for i := 0; i < len(all); i += 37 {
		l = append(l, all[i])
	}
	r := rand.New(rand.NewSource(4))
	for range 200 {
		l = append(l, draw(r))
	}
	return l
}

// wrong are conversions that are not valid.
var wrong = []api.Conversion{
	{},
	linear(-1, 1, 0, 0, 0),
	linear(6, 1, 0, 0, 0),
	linear(api.FormLinear, 512, 0, 0, 0),
	linear(api.FormReciprocal, 0, -513, 0, 0),
	linear(api.FormSquare, 0, 0, 4, 0),
	linear(api.FormRoot, 0, 0, 0, -4),
	{Form: api.FormLinear, Points: []api.Point{{}}},
	{Form: api.FormTable},
	{Form: api.FormTable, M: 1, Points: []api.Point{{}, {Raw: 1}}},
	table(api.Point{}, api.Point{}),
	table(api.Point{Raw: 0x80}, api.Point{Raw: 0x7F}),
	signed(table(api.Point{Raw: 0x7F}, api.Point{Raw: 0x80})),
	table(api.Point{}, api.Point{Raw: 1, Value: limit + 1}),
	numbered(13),
}

func wantNumber(signed bool, raw uint8) int {
	if signed && raw >= 128 {
		return int(raw) - 256
	}
	return int(raw)
}

// byNumber returns all raw readings in the order of their numbers.
func byNumber(signed bool) []uint8 {
	var l []uint8
	for raw := range 256 {
		l = append(l, uint8(raw))
	}
	slices.SortFunc(l, func(a, b uint8) int { return cmp.Compare(wantNumber(signed, a), wantNumber(signed, b)) })
	return l
}

func clampedBig(v *big.Int) int64 {
	if v.Cmp(big.NewInt(limit)) > 0 {
		return limit
	}
	if v.Cmp(big.NewInt(-limit)) < 0 {
		return -limit
	}
	return v.Int64()
}

// rounded returns the greatest whole number that is not above a / b, clamped.
func rounded(a, b *big.Int) int64 {
	if b.Sign() < 0 {
		a, b = new(big.Int).Neg(a), new(big.Int).Neg(b)
	}
	// Div of package big rounds down if the divisor is positive.
	return clampedBig(new(big.Int).Div(a, b))
}

func bigPower(exponent int) *big.Rat {
	p := new(big.Rat).SetInt(new(big.Int).Exp(big.NewInt(10), big.NewInt(int64(max(exponent, -exponent))), nil))
	if exponent < 0 {
		p.Inv(p)
	}
	return p
}

// wantLinear follows P4.2 with fractions of any size; the bool tells whether the result is a whole number of millionths.
func wantLinear(c api.Conversion, raw uint8) (int64, bool) {
	y := new(big.Rat).Mul(big.NewRat(int64(c.B), 1), bigPower(c.K1))
	y.Add(y, big.NewRat(int64(c.M*wantNumber(c.Signed, raw)), 1))
	y.Mul(y, bigPower(c.K2))
	y.Mul(y, big.NewRat(one, 1))
	return clampedBig(y.Num()), y.IsInt()
}

func wantTableValue(c api.Conversion, raw uint8) int64 {
	x := wantNumber(c.Signed, raw)
	above := slices.IndexFunc(c.Points, func(p api.Point) bool { return wantNumber(c.Signed, p.Raw) > x })
	if above == 0 {
		return c.Points[0].Value
	}
	if above < 0 {
		return c.Points[len(c.Points)-1].Value
	}
	p, q := c.Points[above-1], c.Points[above]
	x0, x1 := wantNumber(c.Signed, p.Raw), wantNumber(c.Signed, q.Raw)
	rise := new(big.Int).Mul(big.NewInt(q.Value-p.Value), big.NewInt(int64(x-x0)))
	return p.Value + new(big.Int).Div(rise, big.NewInt(int64(x1-x0))).Int64()
}

// wantValue is only asked for valid conversions.
func wantValue(c api.Conversion, raw uint8) (int64, api.Errno) {
	if c.Form == api.FormTable {
		return wantTableValue(c, raw), api.OK
	}
	v, _ := wantLinear(c, raw)
	y := big.NewInt(v)
	switch {
	case c.Form == api.FormLinear:
		return v, api.OK
	case c.Form == api.FormReciprocal && v == 0:
		return 0, api.ErrZero
	case c.Form == api.FormReciprocal:
		return rounded(big.NewInt(one*one), y), api.OK
	case c.Form == api.FormSquare:
		return rounded(new(big.Int).Mul(y, y), big.NewInt(one)), api.OK
	case v < 0:
		return 0, api.ErrRange
	}
	return new(big.Int).Sqrt(y.Mul(y, big.NewInt(one))).Int64(), api.OK
}

type reading struct {
	raw   uint8
	value int64
}

// readings returns the raw readings that have a value, in the order of their numbers.
func readings(c api.Conversion) []reading {
	var l []reading
	for _, raw := range byNumber(c.Signed) {
		if v, e := wantValue(c, raw); e == api.OK {
			l = append(l, reading{raw, v})
		}
	}
	return l
}
