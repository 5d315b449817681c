package micro_test

import (
	"fmt"
	"math"
	"math/big"
	"math/rand"
	"regexp"
	"strings"
	"testing"

	"baseboard/api"
	"baseboard/micro"
)

var decimal = regexp.MustCompile(`\A-?(0|[1-9][0-9]{0,6})(\.[0-9]{1,6})?\z`)

// wantParsed follows the promise by a regular expression and by fractions of any size.
func wantParsed(s string) (int64, api.Errno) {
	if !decimal.MatchString(s) {
		return 0, api.ErrForm
	}
	v, _ := new(big.Rat).SetString(s)
	v.Mul(v, big.NewRat(one, 1))
	if v.Cmp(big.NewRat(limit, 1)) > 0 || v.Cmp(big.NewRat(-limit, 1)) < 0 {
		return 0, api.ErrRange
	}
	return v.Num().Int64(), api.OK
}

func checkParse(t *testing.T, s string) {
	t.Helper()
	want, wantError := wantParsed(s)
	if got, e := micro.Parse(s); got != want || e != wantError {
		t.Errorf("Parse of %q is %d, error %d, not %d, error %d", s, got, e, want, wantError)
	}
}

// P3.4
func TestParseOfKnownTexts(t *testing.T) {
	for _, x := range []struct {
		s    string
		want int64
	}{
		{"0", 0},
		{"-0", 0},
		{"0.0", 0},
		{"-0.0", 0},
		{"0.000000", 0},
		{"-0.000000", 0},
		{"1", 1_000_000},
		{"-1", -1_000_000},
		{"10", 10_000_000},
		{"1.5", 1_500_000},
		{"-1.5", -1_500_000},
		{"1.50", 1_500_000},
		{"1.500000", 1_500_000},
		{"1.05", 1_050_000},
		{"1.000001", 1_000_001},
		{"0.000001", 1},
		{"-0.000001", -1},
		{"0.1", 100_000},
		{"-0.5", -500_000},
		{"0.123456", 123_456},
		{"123.456789", 123_456_789},
		{"-123.456789", -123_456_789},
		{"999999.999999", 999_999_999_999},
		{"-999999.999999", -999_999_999_999},
		{"1000000", 1_000_000_000_000},
		{"1000000.0", 1_000_000_000_000},
		{"1000000.000000", 1_000_000_000_000},
		{"-1000000", -1_000_000_000_000},
		{"-1000000.000000", -1_000_000_000_000},
	} {
		if got, e := micro.Parse(x.s); got != x.want || e != api.OK {
			t.Errorf("Parse of %q is %d, error %d", x.s, got, e)
		}
	}
}

// P3.4
func TestParseOfTextsThatAreNoDecimalNumbers(t *testing.T) {
	for _, s := range []string{
		"", "-", "--1", "-+1", "+1", "+0", "1-", "1-1", "0-", "- 1", " 1", "1 ", "1\n", "\n1", "\t0", "1\x00", "\x001",
		"00", "01", "-00", "-01", "00.5", "01.5", "0000001", "00000000",
		"12345678", "-12345678", "10000000", "12345678.5", "99999999", "100000000000000000000", strings.Repeat("9", 1000),
		".", "-.", ".5", "-.5", "0.", "-0.", "1.", "-1.", "1..5", "1.5.", "1.5.5", "..", ".5.",
		"1.0000000", "1.1234567", "0.0000000", "-0.0000001", "1." + strings.Repeat("0", 100),
		"1.-5", "1.+5", "1.5-", "1. 5", "1 .5", "1.5 ", "1,5", "1'000", "1_000",
		"1e3", "1E3", "1.5e1", "0x1", "0b1", "0o7", "1/2", "1a", "a1", "a", "1.a", "1.5a", "inf", "Inf", "-Inf", "NaN", "infinity",
		"/", ":", "1/", "1:", "0.:", "0./", "\xB1", "1\xFF", "\uFF11", "\u0661", "1\u066B5", "\u22121", "\u00BD", "\u00B2", "1.\u00B2",
	} {
		if got, e := micro.Parse(s); got != 0 || e != api.ErrForm {
			t.Errorf("Parse of %q is %d, error %d", s, got, e)
		}
	}
}

// P3.4
func TestParseOfNumbersAboveTheLimit(t *testing.T) {
	for _, s := range []string{
		"1000000.000001", "-1000000.000001", "1000000.1", "-1000000.1", "1000001", "-1000001", "1000001.0", "2000000", "9999999", "-9999999", "9999999.999999", "-9999999.999999",
	} {
		if got, e := micro.Parse(s); got != 0 || e != api.ErrRange {
			t.Errorf("Parse of %q is %d, error %d", s, got, e)
		}
	}
}

// P3.4: a number that is above the limit and badly formed.
func TestFormComesBeforeRange(t *testing.T) {
	for _, s := range []string{"9999999.", "09999999", "+9999999", "99999990", "-9999999.9999999", "9999999.x", "9999999.9.9", " 9999999"} {
		if got, e := micro.Parse(s); got != 0 || e != api.ErrForm {
			t.Errorf("Parse of %q is %d, error %d", s, got, e)
		}
	}
}

// P3.4
func TestParseOfAllShortTexts(t *testing.T) {
	const alphabet = "-.0179+ e\x00"
	texts := []string{""}
	for range 5 {
		var longer []string
		for _, s := range texts {
			checkParse(t, s)
			for _, c := range []byte(alphabet) {
				longer = append(longer, s+string([]byte{c}))
			}
		}
		texts = longer
	}
}

// P3.4
func TestParseWithEachByteAtEachPlace(t *testing.T) {
	for _, s := range []string{"", "0", "-7", "1.5", "-120.034", "1000000", "999999.99999", "1234567.123456"} {
		for i := range len(s) + 1 {
			for c := range 256 {
				x := string([]byte{byte(c)})
				checkParse(t, s[:i]+x+s[i:])
				if i < len(s) {
					checkParse(t, s[:i]+x+s[i+1:])
				}
			}
		}
	}
}

// P3.4
func TestParseOfDrawnTexts(t *testing.T) {
	r := rand.New(rand.NewSource(34))
	digits := func(n int) string {
		var b strings.Builder
		for range n {
			b.WriteByte("0123456789"[r.Intn(10)])
		}
		return b.String()
	}
	counts := map[api.Errno]int{}
	for range 50000 {
		s := digits(r.Intn(9))
		if r.Intn(2) == 0 {
			s = "-" + s
		}
		if r.Intn(3) > 0 {
			s += "." + digits(r.Intn(8))
		}
		checkParse(t, s)
		_, e := micro.Parse(s)
		counts[e]++
	}
	if counts[api.OK] < 1000 || counts[api.ErrForm] < 1000 || counts[api.ErrRange] < 1000 {
		t.Errorf("too few texts of a kind: %v", counts)
	}
}

// P3.5
func TestFormatOfKnownNumbers(t *testing.T) {
	for _, x := range []struct {
		v    int64
		want string
	}{
		{0, "0"},
		{1, "0.000001"},
		{-1, "-0.000001"},
		{10, "0.00001"},
		{100_000, "0.1"},
		{-100_000, "-0.1"},
		{500_000, "0.5"},
		{-500_000, "-0.5"},
		{120_034, "0.120034"},
		{120_030, "0.12003"},
		{999_999, "0.999999"},
		{-999_999, "-0.999999"},
		{1_000_000, "1"},
		{-1_000_000, "-1"},
		{1_000_001, "1.000001"},
		{1_000_010, "1.00001"},
		{1_100_000, "1.1"},
		{-1_050_000, "-1.05"},
		{10_000_000, "10"},
		{100_000_000, "100"},
		{-120_000_000, "-120"},
		{120_500_000, "120.5"},
		{123_456_789, "123.456789"},
		{999_999_999_999, "999999.999999"},
		{-999_999_999_999, "-999999.999999"},
		{999_999_900_000, "999999.9"},
		{1_000_000_000_000, "1000000"},
		{-1_000_000_000_000, "-1000000"},
		{1_000_000_000_001, "1000000"},
		{-1_000_000_000_001, "-1000000"},
		{math.MaxInt64, "1000000"},
		{math.MinInt64, "-1000000"},
	} {
		if got := micro.Format(x.v); got != x.want {
			t.Errorf("Format of %d is %q", x.v, got)
		}
	}
}

// wantFormatted writes all digits and takes away those that are not needed.
func wantFormatted(v int64) string {
	s := big.NewRat(clamped(v), one).FloatString(6)
	return strings.TrimSuffix(strings.TrimRight(s, "0"), ".")
}

func checkFormat(t *testing.T, v int64) {
	t.Helper()
	s := micro.Format(v)
	if s != wantFormatted(v) {
		t.Errorf("Format of %d is %q, not %q", v, s, wantFormatted(v))
	}
	if !decimal.MatchString(s) || strings.HasPrefix(s, "-") != (v < 0) {
		t.Errorf("Format of %d is %q", v, s)
	}
	// Consequences
	if got, e := micro.Parse(s); got != clamped(v) || e != api.OK {
		t.Errorf("Parse of %q, which is Format of %d, is %d, error %d", s, v, got, e)
	}
}

// P3.5 and Consequences
func TestFormatIsTheShortest(t *testing.T) {
	r := rand.New(rand.NewSource(36))
	for v := int64(-3 * one); v <= 3*one; v += 7 {
		checkFormat(t, v)
	}
	for _, v := range edges() {
		checkFormat(t, v)
	}
	for range 50000 {
		v := draw(r)
		for _, unit := range []int64{1, 10, 1000, 100_000, one} {
			checkFormat(t, v/unit*unit)
		}
	}
}

// P3.5: no text with fewer bytes has the same value.
func TestNoShorterTextHasTheValue(t *testing.T) {
	shortest := map[int64]int{}
	texts := []string{""}
	for length := range 6 {
		var longer []string
		for _, s := range texts {
			v, e := micro.Parse(s)
			if _, known := shortest[v]; e == api.OK && !known {
				shortest[v] = length
			}
			for _, c := range []byte("-.0123456789") {
				// A text that is no beginning of a decimal number has no use.
				if (c != '-' || s == "") && (c != '.' || !strings.Contains(s, ".")) {
					longer = append(longer, s+string([]byte{c}))
				}
			}
		}
		texts = longer
	}
	if len(shortest) < 10000 {
		t.Errorf("only %d values", len(shortest))
	}
	for v, n := range shortest {
		if got := micro.Format(v); len(got) != n {
			t.Errorf("Format of %d is %q, which is not of %d bytes", v, got, n)
		}
	}
}

// R1
func FuzzParse(f *testing.F) {
	for _, s := range []string{"", "0", "-0", "1.5", "-0.000001", "1000000", "1000000.000001", "1234567.123456", "1.", ".1", "+1", "01"} {
		f.Add(s)
	}
	f.Fuzz(func(t *testing.T, s string) {
		checkParse(t, s)
	})
}

func Example() {
	half, e := micro.Parse("1.5")
	fmt.Println(half, e)
	fmt.Println(micro.Format(micro.Mul(half, -1)))
	third, e := micro.Div(api.One, 3*api.One)
	fmt.Println(micro.Format(third), e)
	third, e = micro.Div(-api.One, 3*api.One)
	fmt.Println(micro.Format(third), e)
	root, e := micro.Root(2 * api.One)
	fmt.Println(micro.Format(root), e)
	fmt.Println(micro.Format(-500000))
	// Output:
	// 1500000 0
	// -0.000002
	// 0.333333 0
	// -0.333334 0
	// 1.414213 0
	// -0.5
}
