package micro_test

import (
	"math"
	"math/big"
	"math/rand"
)

const (
	one   = 1_000_000
	limit = 1_000_000_000_000
)

// edges are the numbers where a rule changes, with their neighbours, of both signs.
func edges() []int64 {
	var l []int64
	for _, v := range []int64{
		0, 10, 100, 333_333, 500_000, one, 2 * one, 3 * one, 10 * one, 1_414_213, 1_500_000, 1_000_000_000, limit / 3, limit / 2, limit - one, limit,
		2 * limit, limit * one, 4_294_967_296, 4_611_686_018_427_387_904, math.MaxInt64 - 1,
	} {
		for _, w := range []int64{v - 1, v, v + 1} {
			l = append(l, w, -w)
		}
	}
	return append(l, math.MinInt64, math.MinInt64+1, math.MinInt64+one)
}

// draw returns a number of any length and of either sign, seldom one beyond the limit.
func draw(r *rand.Rand) int64 {
	v := r.Int63n(int64(1) << (1 + r.Intn(42)))
	if r.Intn(2) == 0 {
		v = -v
	}
	switch r.Intn(12) {
	case 0:
		return v * one
	case 1:
		return v / one * one
	case 2:
		return int64(r.Uint64())
	case 3:
		return limit - v%one
	case 4:
		return -limit + v%one
	}
	return v
}

type pair struct{ a, b int64 }

// pairs are all pairs of edges, and many that are drawn.
func pairs() []pair {
	var l []pair
	for _, a := range edges() {
		for _, b := range edges() {
			l = append(l, pair{a, b})
		}
	}
	r := rand.New(rand.NewSource(3))
	for range 20000 {
		l = append(l, pair{draw(r), draw(r)})
	}
	return l
}

// clampedBig compares instead of computing, so that it has nothing in common with the program.
func clampedBig(v *big.Int) int64 {
	if v.Cmp(big.NewInt(limit)) > 0 {
		return limit
	}
	if v.Cmp(big.NewInt(-limit)) < 0 {
		return -limit
	}
	return v.Int64()
}

func clamped(v int64) int64 { return clampedBig(big.NewInt(v)) }

func bigs(p pair) (a, b *big.Int) {
	return big.NewInt(clamped(p.a)), big.NewInt(clamped(p.b))
}

// rounded returns the greatest whole number that is not above x / y, clamped.
func rounded(x, y *big.Int) int64 {
	if y.Sign() < 0 {
		x, y = new(big.Int).Neg(x), new(big.Int).Neg(y)
	}
	// Div of package big rounds down if the divisor is positive.
	return clampedBig(new(big.Int).Div(x, y))
}

func wantSum(p pair) int64 {
	a, b := bigs(p)
	return clampedBig(a.Add(a, b))
}

func wantDifference(p pair) int64 {
	a, b := bigs(p)
	return clampedBig(a.Sub(a, b))
}

func wantProduct(p pair) int64 {
	a, b := bigs(p)
	return rounded(a.Mul(a, b), big.NewInt(one))
}

// wantQuotient is only asked for pairs whose b is not 0.
func wantQuotient(p pair) int64 {
	a, b := bigs(p)
	return rounded(a.Mul(a, big.NewInt(one)), b)
}
