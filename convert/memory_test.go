package convert_test

import (
	"bytes"
	"math"
	"math/rand"
	"slices"
	"testing"

	"baseboard/api"
	"baseboard/convert"
)

// callAll calls every function with the conversion.
func callAll(c api.Conversion) {
	convert.Valid(c)
	convert.Value(c, 0x80)
	convert.Nearest(c, one)
	convert.Direction(c)
	convert.Encode(c)
}

// R2
func TestNoFunctionChangesPoints(t *testing.T) {
	for _, c := range append(few(), wrong...) {
		array := append(slices.Clone(c.Points), api.Point{Raw: 9, Value: 99}, api.Point{Raw: 8, Value: 88})
		before := slices.Clone(array)
		c.Points = array[:len(c.Points)]
		callAll(c)
		if !slices.Equal(array, before) {
			t.Errorf("%v became %v", before, array)
		}
	}
}

// R2
func TestDecodeLeavesBytes(t *testing.T) {
	refused := [][]byte{{}, {0}, {5}, {5, 1}, {5, 2, 0}, {1, 0, 0, 0, 0, 9, 0}}
	for _, x := range known {
		refused = append(refused, x.b)
	}
	for _, b := range refused {
		array := append(slices.Clone(b), 0xAA, 0xAA)
		before := slices.Clone(array)
		c, n, e := convert.Decode(array[:len(b)])
		if !bytes.Equal(array, before) {
			t.Errorf("% X became % X", before, array)
		}
		clear(array)
		checkDecode(t, b, c, n, e)
	}
}

// R2
func TestEncodingSharesNothingWithPoints(t *testing.T) {
	for _, c := range few() {
		mine := clone(c)
		b, e := convert.Encode(mine)
		clear(mine.Points)
		if !bytes.Equal(b, encoding(c)) || e != api.OK {
			t.Errorf("the encoding of %v became % X, error %d", c, b, e)
		}
	}
}

// R2, R7
func TestResultsAreNewEachTime(t *testing.T) {
	for _, c := range few() {
		b, _ := convert.Encode(c)
		again, _ := convert.Encode(c)
		clear(b[:cap(b)])
		if !bytes.Equal(again, encoding(c)) {
			t.Errorf("two encodings of %v share memory", c)
		}
		read, _, _ := convert.Decode(again)
		other, _, _ := convert.Decode(again)
		clear(read.Points[:cap(read.Points)])
		if !equal(other, c) {
			t.Errorf("two conversions that were decoded from % X share memory", again)
		}
	}
}

// R3
func TestNilIsEmpty(t *testing.T) {
	for form := -1; form <= 6; form++ {
		without := api.Conversion{Form: form, M: 3, B: -7, K1: 1}
		empty := without
		empty.Points = []api.Point{}
		if a, b := convert.Valid(without), convert.Valid(empty); a != b {
			t.Errorf("form %d: Valid is %t and %t", form, a, b)
		}
		v, e := convert.Value(without, 5)
		checkKnown(t, empty, 5, v, e)
		raw, e := convert.Nearest(without, -7)
		checkNearest(t, empty, -7, raw, e)
		d, e := convert.Direction(without)
		checkDirection(t, empty, d, e)
		b, e := convert.Encode(without)
		if got, e2 := convert.Encode(empty); !bytes.Equal(got, b) || e2 != e {
			t.Errorf("form %d: Encode is % X and % X, errors %d and %d", form, b, got, e, e2)
		}
	}
}

// results are all that the functions say of a conversion and a number.
type results struct {
	valid             bool
	value             int64
	nearest           uint8
	direction         int
	encoding          string
	e1, e2, e3, e4    api.Errno
	unsigned, twoSide int
}

func resultsOf(c api.Conversion, raw uint8, v int64) results {
	var r results
	r.valid = convert.Valid(c)
	r.value, r.e1 = convert.Value(c, raw)
	r.nearest, r.e2 = convert.Nearest(c, v)
	r.direction, r.e3 = convert.Direction(c)
	b, e := convert.Encode(c)
	r.encoding, r.e4 = string(b), e
	r.unsigned, r.twoSide = convert.Number(false, raw), convert.Number(true, raw)
	return r
}

// R7: the calls in between, and the order of the calls, do not matter.
func TestResultsDependOnlyOnArguments(t *testing.T) {
	r := rand.New(rand.NewSource(7))
	all := append(few(), wrong...)
	all = append(all, nowhere...)
	var first []results
	for i, c := range all {
		first = append(first, resultsOf(c, uint8(i), int64(i)*one))
	}
	for _, i := range r.Perm(len(all)) {
		convert.Decode(known[i%len(known)].b)
		if again := resultsOf(clone(all[i]), uint8(i), int64(i)*one); again != first[i] {
			t.Errorf("%v: %v, later %v", all[i], first[i], again)
		}
	}
}

// R1
func TestMalformedConversions(t *testing.T) {
	numbers := []int{math.MinInt, math.MinInt + 1, -1 << 32, -1, 0, 1, 5, 1 << 32, math.MaxInt}
	r := rand.New(rand.NewSource(1))
	for range 20000 {
		some := func() int { return numbers[r.Intn(len(numbers))] }
		c := api.Conversion{Form: some(), Signed: r.Intn(2) == 0, M: some(), B: some(), K1: some(), K2: some(), Points: make([]api.Point, r.Intn(20))}
		if r.Intn(2) == 0 {
			c.Form = 1 + r.Intn(5)
		}
		for i := range c.Points {
			c.Points[i] = api.Point{Raw: uint8(r.Intn(256)), Value: int64(some())}
		}
		callAll(c)
		if !convert.Valid(c) {
			checkKnown(t, c, 3, 0, api.ErrInvalid)
			checkNearest(t, c, int64(some()), 0, api.ErrInvalid)
			checkDirection(t, c, 0, api.ErrInvalid)
		}
	}
}

// R1
func FuzzConversion(f *testing.F) {
	f.Add(1, false, 5, -10, 1, -2, uint8(100), int64(4*one))
	f.Add(2, true, 0, 0, 3, 3, uint8(0x80), int64(math.MinInt64))
	f.Add(4, true, -512, 511, -3, 3, uint8(0xFF), int64(math.MaxInt64))
	f.Fuzz(func(t *testing.T, form int, s bool, m, b, k1, k2 int, raw uint8, v int64) {
		c := api.Conversion{Form: form, Signed: s, M: m, B: b, K1: k1, K2: k2}
		if !convert.Valid(c) {
			checkKnown(t, c, raw, 0, api.ErrInvalid)
			return
		}
		checkValue(t, c, raw)
		want, e := wantNearest(readings(c), v)
		checkNearest(t, c, v, want, e)
	})
}
