package micro

import (
	"strconv"
	"strings"

	"baseboard/api"
)

const (
	maxWholeDigits = 7
	fractionDigits = 6
)

// Parse reads a decimal number.
func Parse(s string) (int64, api.Errno) {
	unsigned, negative := strings.CutPrefix(s, "-")
	whole, fraction, point := strings.Cut(unsigned, ".")
	if !isWhole(whole) || point && !isFraction(fraction) {
		return 0, api.ErrForm
	}
	v := appendDigits(appendDigits(0, whole), fraction)
	for range fractionDigits - len(fraction) {
		v *= 10
	}
	if v > api.MicroLimit {
		return 0, api.ErrRange
	}
	if negative {
		v = -v
	}
	return v, api.OK
}

func isWhole(s string) bool {
	return onlyDigits(s) && len(s) <= maxWholeDigits && (s == "0" || s[0] != '0')
}

func isFraction(s string) bool {
	return onlyDigits(s) && len(s) <= fractionDigits
}

func onlyDigits(s string) bool {
	for _, c := range []byte(s) {
		if c < '0' || c > '9' {
			return false
		}
	}
	return s != ""
}

func appendDigits(v int64, digits string) int64 {
	for _, c := range []byte(digits) {
		v = 10*v + int64(c-'0')
	}
	return v
}

// Format writes a decimal number.
func Format(v int64) string {
	v = Clamp(v)
	var b []byte
	if v < 0 {
		b = append(b, '-')
		v = -v
	}
	b = strconv.AppendInt(b, v/api.One, 10)
	rest := v % api.One
	if rest != 0 {
		b = append(b, '.')
	}
	const tenth = api.One / 10
	for rest != 0 {
		b = append(b, byte('0'+rest/tenth))
		rest = rest % tenth * 10
	}
	return string(b)
}
