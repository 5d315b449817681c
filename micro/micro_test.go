package micro_test

import (
	"math"
	"math/big"
	"math/rand"
	"slices"
	"testing"

	"baseboard/api"
	"baseboard/micro"
)

// P3.1
func TestClampOfKnownNumbers(t *testing.T) {
	for _, x := range []struct{ v, want int64 }{
		{0, 0},
		{1, 1},
		{-1, -1},
		{1_500_000, 1_500_000},
		{999_999_999_999, 999_999_999_999},
		{1_000_000_000_000, 1_000_000_000_000},
		{1_000_000_000_001, 1_000_000_000_000},
		{-999_999_999_999, -999_999_999_999},
		{-1_000_000_000_000, -1_000_000_000_000},
		{-1_000_000_000_001, -1_000_000_000_000},
		{math.MaxInt64, 1_000_000_000_000},
		{math.MinInt64, -1_000_000_000_000},
	} {
		if got := micro.Clamp(x.v); got != x.want {
			t.Errorf("Clamp of %d is %d", x.v, got)
		}
	}
}

// P3.1
func TestClampReturnsTheNearestNumber(t *testing.T) {
	r := rand.New(rand.NewSource(31))
	numbers := edges()
	for range 20000 {
		numbers = append(numbers, draw(r))
	}
	for _, v := range numbers {
		got := micro.Clamp(v)
		if got < -api.MicroLimit || got > api.MicroLimit {
			t.Errorf("Clamp of %d is %d, which is beyond the limit", v, got)
		}
		if got != clamped(v) {
			t.Errorf("Clamp of %d is %d", v, got)
		}
	}
}

// beyond are numbers that are clamped, each with the number that counts in their place.
var beyond = []struct{ v, counts int64 }{
	{limit + 1, limit},
	{2 * limit, limit},
	{math.MaxInt64, limit},
	{-limit - 1, -limit},
	{-2 * limit, -limit},
	{math.MinInt64, -limit},
}

// P3.1
func TestArgumentsAreClampedFirst(t *testing.T) {
	calls := []struct {
		name string
		f    func(a, b int64) (int64, api.Errno)
	}{
		{"Add", func(a, b int64) (int64, api.Errno) { return micro.Add(a, b), api.OK }},
		{"Sub", func(a, b int64) (int64, api.Errno) { return micro.Sub(a, b), api.OK }},
		{"Mul", func(a, b int64) (int64, api.Errno) { return micro.Mul(a, b), api.OK }},
		{"Div", micro.Div},
		{"Root", func(a, b int64) (int64, api.Errno) { return micro.Root(a) }},
		{"Parse of Format", func(a, b int64) (int64, api.Errno) { return micro.Parse(micro.Format(a)) }},
	}
	for _, c := range calls {
		for _, x := range beyond {
			for _, w := range edges() {
				got, e := c.f(x.v, w)
				if want, wantError := c.f(x.counts, w); got != want || e != wantError {
					t.Errorf("%s of %d and %d is %d, error %d, not %d, error %d", c.name, x.v, w, got, e, want, wantError)
				}
				got, e = c.f(w, x.v)
				if want, wantError := c.f(w, x.counts); got != want || e != wantError {
					t.Errorf("%s of %d and %d is %d, error %d, not %d, error %d", c.name, w, x.v, got, e, want, wantError)
				}
			}
		}
	}
}

// P3.1: a sum of the numbers as they are would be another one.
func TestClampedSums(t *testing.T) {
	for _, x := range []struct{ got, want int64 }{
		{micro.Add(math.MaxInt64, -1), limit - 1},
		{micro.Add(math.MaxInt64, -2*limit), 0},
		{micro.Add(math.MaxInt64, math.MinInt64), 0},
		{micro.Add(math.MaxInt64, math.MaxInt64), limit},
		{micro.Add(math.MinInt64, math.MinInt64), -limit},
		{micro.Sub(math.MaxInt64, limit+7), 0},
		{micro.Sub(limit+7, 7), limit - 7},
		{micro.Sub(0, math.MinInt64), limit},
		{micro.Sub(math.MinInt64, math.MinInt64), 0},
		{micro.Sub(math.MinInt64, math.MaxInt64), -limit},
		{micro.Mul(2*limit, one/2), limit / 2},
		{micro.Mul(math.MinInt64, one/2), -limit / 2},
		{micro.Mul(math.MinInt64, math.MinInt64), limit},
		{micro.Mul(math.MinInt64, math.MaxInt64), -limit},
		{micro.Mul(math.MinInt64, 0), 0},
	} {
		if x.got != x.want {
			t.Errorf("%d, not %d", x.got, x.want)
		}
	}
}

// P3.2
func TestKnownSumsAndProducts(t *testing.T) {
	for _, x := range []struct{ a, b, sum, difference, product int64 }{
		{0, 0, 0, 0, 0},
		{1, 1, 2, 0, 0},
		{1, -1, 0, 2, -1},
		{-1, -1, -2, 0, 0},
		{1_500_000, 2_250_000, 3_750_000, -750_000, 3_375_000},
		{1_500_000, -1, 1_499_999, 1_500_001, -2},
		{1_500_000, 1, 1_500_001, 1_499_999, 1},
		{-1_500_000, 1_000_000, -500_000, -2_500_000, -1_500_000},
		{-1_500_000, 1_000_001, -499_999, -2_500_001, -1_500_002},
		{-1_500_000, -1_000_001, -2_500_001, -499_999, 1_500_001},
		{999_999, 999_999, 1_999_998, 0, 999_998},
		{999_999, -999_999, 0, 1_999_998, -999_999},
		{1000, 1000, 2000, 0, 1},
		{1000, -1000, 0, 2000, -1},
		{1000, 999, 1999, 1, 0},
		{1000, -999, 1, 1999, -1},
		{-1000, 999, -1, -1999, -1},
		{limit, 0, limit, limit, 0},
		{limit, 1, limit, limit - 1, 1_000_000},
		{limit, -1, limit - 1, limit, -1_000_000},
		{-limit, 1, 1 - limit, -limit, -1_000_000},
		{-limit, -1, -limit, 1 - limit, 1_000_000},
		{limit, one, limit, limit - one, limit},
		{limit, one + 1, limit, limit - one - 1, limit},
		{limit, one - 1, limit, limit - one + 1, limit - one},
		{-limit, one + 1, one + 1 - limit, -limit, -limit},
		{limit, limit, limit, 0, limit},
		{limit, -limit, 0, limit, -limit},
		{-limit, -limit, -limit, 0, limit},
		{1_000_000_000, 1_000_000_000, 2_000_000_000, 0, limit},
		{1_000_000_000, 999_999_999, 1_999_999_999, 1, limit - 1000},
		{999_999_999_999, 999_999, limit, limit - one, 999_998_999_999},
		{-999_999_999_999, 999_999, one - limit, -limit, -999_999_000_000},
	} {
		if got := micro.Add(x.a, x.b); got != x.sum {
			t.Errorf("Add of %d and %d is %d", x.a, x.b, got)
		}
		if got := micro.Sub(x.a, x.b); got != x.difference {
			t.Errorf("Sub of %d and %d is %d", x.a, x.b, got)
		}
		if got := micro.Mul(x.a, x.b); got != x.product {
			t.Errorf("Mul of %d and %d is %d", x.a, x.b, got)
		}
	}
}

// P3.2
func TestKnownQuotients(t *testing.T) {
	for _, x := range []struct{ a, b, want int64 }{
		{0, 1, 0},
		{0, -1, 0},
		{1, 1, 1_000_000},
		{-1, 1, -1_000_000},
		{1_000_000, 3_000_000, 333_333},
		{-1_000_000, 3_000_000, -333_334},
		{1_000_000, -3_000_000, -333_334},
		{-1_000_000, -3_000_000, 333_333},
		{2_000_000, 3_000_000, 666_666},
		{-2_000_000, 3_000_000, -666_667},
		{6_000_000, 3_000_000, 2_000_000},
		{-6_000_000, 3_000_000, -2_000_000},
		{6_000_000, -3_000_000, -2_000_000},
		{1, limit, 0},
		{-1, limit, -1},
		{1, -limit, -1},
		{-1, -limit, 0},
		{limit, limit, one},
		{limit, -limit, -one},
		{limit, one, limit},
		{limit, one - 1, limit},
		{-limit, one - 1, -limit},
		{limit, one + 1, 999_999_000_000},
		{-limit, one + 1, -999_999_000_001},
		{limit, 1, limit},
		{limit, -1, -limit},
		{-limit, 1, -limit},
		{-limit, -1, limit},
		{1_000_001, 1, limit},
		{1_000_000, 1, limit},
		{999_999, 1, 999_999_000_000},
		{math.MaxInt64, 2_000_000, limit / 2},
		{math.MinInt64, 2_000_000, -limit / 2},
		{1_000_000, math.MaxInt64, 1},
		{1_000_000, math.MinInt64, -1},
		{999_999, math.MaxInt64, 0},
		{999_999, math.MinInt64, -1},
		{math.MinInt64, math.MinInt64, one},
		{math.MinInt64, -1, limit},
	} {
		if got, e := micro.Div(x.a, x.b); got != x.want || e != api.OK {
			t.Errorf("Div of %d by %d is %d, error %d", x.a, x.b, got, e)
		}
	}
}

// P3.2
func TestSumsProductsAndQuotientsAreExact(t *testing.T) {
	for _, p := range pairs() {
		if got, want := micro.Add(p.a, p.b), wantSum(p); got != want {
			t.Fatalf("Add of %d and %d is %d, not %d", p.a, p.b, got, want)
		}
		if got, want := micro.Sub(p.a, p.b), wantDifference(p); got != want {
			t.Fatalf("Sub of %d and %d is %d, not %d", p.a, p.b, got, want)
		}
		if got, want := micro.Mul(p.a, p.b), wantProduct(p); got != want {
			t.Fatalf("Mul of %d and %d is %d, not %d", p.a, p.b, got, want)
		}
		if p.b == 0 {
			continue
		}
		if got, e := micro.Div(p.a, p.b); got != wantQuotient(p) || e != api.OK {
			t.Fatalf("Div of %d by %d is %d, error %d, not %d", p.a, p.b, got, e, wantQuotient(p))
		}
	}
}

// P3.2
func TestDivisionByZero(t *testing.T) {
	for _, a := range edges() {
		if got, e := micro.Div(a, 0); got != 0 || e != api.ErrZero {
			t.Errorf("Div of %d by 0 is %d, error %d", a, got, e)
		}
	}
}

// P3.3
func TestKnownRoots(t *testing.T) {
	for _, x := range []struct{ a, want int64 }{
		{0, 0},
		{1, 1000},
		{2, 1414},
		{3, 1732},
		{4, 2000},
		{999_999, 999_999},
		{1_000_000, 1_000_000},
		{1_000_001, 1_000_000},
		{1_000_002, 1_000_000},
		{1_000_003, 1_000_001},
		{2_000_000, 1_414_213},
		{2_250_000, 1_500_000},
		{4_000_000, 2_000_000},
		{100_000_000, 10_000_000},
		{999_999_999_999, 999_999_999},
		{999_999_998_001, 999_999_999},
		{999_999_998_000, 999_999_998},
		{limit, 1_000_000_000},
		{limit + 1, 1_000_000_000},
		{4 * limit, 1_000_000_000},
		{math.MaxInt64, 1_000_000_000},
	} {
		if got, e := micro.Root(x.a); got != x.want || e != api.OK {
			t.Errorf("Root of %d is %d, error %d", x.a, got, e)
		}
	}
}

// P3.3
func TestRootIsTheGreatest(t *testing.T) {
	r := rand.New(rand.NewSource(33))
	numbers := edges()
	for i := range int64(3000) {
		numbers = append(numbers, i, i*i, i*i-1, i*one)
	}
	for range 20000 {
		numbers = append(numbers, draw(r))
	}
	for _, a := range numbers {
		if a < 0 {
			continue
		}
		want := new(big.Int).Mul(big.NewInt(clamped(a)), big.NewInt(one))
		want.Sqrt(want)
		if got, e := micro.Root(a); got != want.Int64() || e != api.OK {
			t.Fatalf("Root of %d is %d, error %d, not %d", a, got, e, want)
		}
	}
}

// P3.3
func TestRootOfNegativeNumber(t *testing.T) {
	count := 0
	for _, a := range append(edges(), -2, -4*one, -100) {
		if a >= 0 {
			continue
		}
		count++
		if got, e := micro.Root(a); got != 0 || e != api.ErrRange {
			t.Errorf("Root of %d is %d, error %d", a, got, e)
		}
	}
	if count < 10 {
		t.Errorf("only %d negative numbers", count)
	}
}

// Consequences
func TestOrderOfSummandsAndFactors(t *testing.T) {
	for _, p := range pairs() {
		if micro.Add(p.a, p.b) != micro.Add(p.b, p.a) {
			t.Fatalf("Add of %d and %d depends on their order", p.a, p.b)
		}
		if micro.Mul(p.a, p.b) != micro.Mul(p.b, p.a) {
			t.Fatalf("Mul of %d and %d depends on their order", p.a, p.b)
		}
	}
}

// Consequences
func TestSubOfAdd(t *testing.T) {
	for _, p := range append(pairs(), pair{limit, 0}, pair{limit, -limit}, pair{-limit, limit}) {
		a, b := clamped(p.a), clamped(p.b)
		if a+b != clamped(a+b) {
			continue
		}
		if got := micro.Sub(micro.Add(a, b), b); got != a {
			t.Fatalf("%d, and added and subtracted %d: %d", a, b, got)
		}
	}
}

// Consequences
func TestResultsAreMonotone(t *testing.T) {
	r := rand.New(rand.NewSource(35))
	numbers := edges()
	for range 3000 {
		numbers = append(numbers, draw(r))
	}
	slices.Sort(numbers)
	// Each function of b falls if falls is true, and otherwise rises.
	for _, b := range edges() {
		calls := []struct {
			name  string
			falls bool
			f     func(x int64) int64
		}{
			{"Clamp", false, micro.Clamp},
			{"Add", false, func(x int64) int64 { return micro.Add(x, b) }},
			{"Sub", false, func(x int64) int64 { return micro.Sub(x, b) }},
			{"Sub from b", true, func(x int64) int64 { return micro.Sub(b, x) }},
			{"Mul", b < 0, func(x int64) int64 { return micro.Mul(x, b) }},
			{"Div", b < 0, func(x int64) int64 { v, _ := micro.Div(x, b); return v }},
			{"Root", false, func(x int64) int64 { v, _ := micro.Root(x); return v }},
		}
		for _, c := range calls {
			for i := range len(numbers) - 1 {
				low, high := c.f(numbers[i]), c.f(numbers[i+1])
				if c.falls {
					low, high = high, low
				}
				if low > high {
					t.Fatalf("%s with %d: not monotone from %d to %d", c.name, b, numbers[i], numbers[i+1])
				}
			}
		}
	}
}

// Consequences
func TestRootOfSquare(t *testing.T) {
	check := func(r int64) {
		if got, e := micro.Root(micro.Mul(r, r)); got != r || e != api.OK {
			t.Fatalf("Root of the square of %d is %d, error %d", r, got, e)
		}
	}
	// The square of r is a multiple of One in exactly these cases.
	for r := int64(0); r <= 1_000_000_000; r += 1000 {
		check(r)
	}
}

// R7
func TestResultsDependOnTheArgumentsAlone(t *testing.T) {
	l := pairs()[:3000]
	type results struct {
		clamp, sum, difference, product, quotient, root, parsed int64
		quotientError, rootError, parseError                    api.Errno
		text                                                    string
	}
	all := func(p pair) results {
		var x results
		x.clamp, x.sum, x.difference, x.product = micro.Clamp(p.a), micro.Add(p.a, p.b), micro.Sub(p.a, p.b), micro.Mul(p.a, p.b)
		x.quotient, x.quotientError = micro.Div(p.a, p.b)
		x.root, x.rootError = micro.Root(p.a)
		x.text = micro.Format(p.a)
		x.parsed, x.parseError = micro.Parse(x.text)
		return x
	}
	first := make([]results, len(l))
	for i, p := range l {
		first[i] = all(p)
	}
	for _, i := range rand.New(rand.NewSource(37)).Perm(len(l)) {
		if again := all(l[i]); again != first[i] {
			t.Errorf("%v: %v, and later %v", l[i], first[i], again)
		}
	}
	done := make(chan bool)
	for range 4 {
		go func() {
			same := true
			for i, p := range l {
				same = same && all(p) == first[i]
			}
			done <- same
		}()
	}
	for range 4 {
		if !<-done {
			t.Error("a result depends on calls at the same time")
		}
	}
}

// R1
func FuzzNumbers(f *testing.F) {
	for _, p := range pairs()[:200] {
		f.Add(p.a, p.b)
	}
	f.Fuzz(func(t *testing.T, a, b int64) {
		p := pair{a, b}
		if got := micro.Clamp(a); got != clamped(a) {
			t.Errorf("Clamp: %d", got)
		}
		if got := micro.Add(a, b); got != wantSum(p) {
			t.Errorf("Add: %d", got)
		}
		if got := micro.Sub(a, b); got != wantDifference(p) {
			t.Errorf("Sub: %d", got)
		}
		if got := micro.Mul(a, b); got != wantProduct(p) {
			t.Errorf("Mul: %d", got)
		}
		if got, e := micro.Div(a, b); b != 0 && (got != wantQuotient(p) || e != api.OK) || b == 0 && (got != 0 || e != api.ErrZero) {
			t.Errorf("Div: %d, error %d", got, e)
		}
		r, e := micro.Root(a)
		if a < 0 && (r != 0 || e != api.ErrRange) {
			t.Errorf("Root: %d, error %d", r, e)
		}
		if square := clamped(a) * one; a >= 0 && (e != api.OK || r < 0 || r*r > square || (r+1)*(r+1) <= square) {
			t.Errorf("Root: %d, error %d", r, e)
		}
		if got, e := micro.Parse(micro.Format(a)); got != clamped(a) || e != api.OK {
			t.Errorf("Parse of Format: %d, error %d", got, e)
		}
	})
}
