package event_test

import (
	"math/rand"
	"strings"
	"testing"

	"baseboard/api"
	"baseboard/event"
)

func checkFormat(t *testing.T, e api.Event, want string, wantError api.Errno) {
	t.Helper()
	if s, err := event.Format(e); s != want || err != wantError {
		t.Errorf("Format of %+v is %q, error %d, not %q, error %d", e, s, err, want, wantError)
	}
}

// checkParse checks what Parse makes of a text, and that what it accepts is the text of the event that it returns.
func checkParse(t *testing.T, s string, want api.Event, wantError api.Errno) {
	t.Helper()
	e, err := event.Parse(s)
	if e != want || err != wantError {
		t.Errorf("Parse of %q is %+v, error %d, not %+v, error %d", s, e, err, want, wantError)
	}
	if err == api.OK {
		// Consequences
		checkFormat(t, e, s, api.OK)
	}
}

func checkParseByModel(t *testing.T, s string) api.Errno {
	t.Helper()
	want, wantError := wantParsed(s)
	checkParse(t, s, want, wantError)
	return wantError
}

// refuses checks that Parse returns an error for a text, and that the model of the tests does as well.
func refuses(t *testing.T, s string, want api.Errno) {
	t.Helper()
	checkParse(t, s, api.Event{}, want)
	if _, e := wantParsed(s); e != want {
		t.Errorf("%q is error %d for the model, not %d", s, e, want)
	}
}

// P7.3
func TestFormatOfKnownEvents(t *testing.T) {
	for _, x := range known {
		checkFormat(t, x.e, x.text, api.OK)
	}
}

// P7.3
func TestFormatOfEdges(t *testing.T) {
	for _, e := range edges() {
		if valid(e) {
			checkFormat(t, e, formatted(e), api.OK)
		} else {
			checkFormat(t, e, "", api.ErrInvalid)
		}
	}
}

// P7.3
func TestWordOfEachType(t *testing.T) {
	for eventType := range 256 {
		word := "other"
		switch eventType {
		case 1:
			word = "threshold"
		case 111:
			word = "state"
		}
		for _, deassert := range []bool{false, true} {
			e := api.Event{Generator: 7, Type: uint8(eventType), Deassert: deassert}
			s, err := event.Format(e)
			if eventType >= 128 {
				checkFormat(t, e, "", api.ErrInvalid)
			} else if !strings.HasSuffix(s, " 000000 "+word) || err != api.OK {
				t.Errorf("Format of %+v is %q, error %d", e, s, err)
			}
		}
	}
}

// P7.3, P7.4 and Consequences
func TestParseOfFormat(t *testing.T) {
	for _, e := range samples() {
		checkFormat(t, e, formatted(e), api.OK)
		s, _ := event.Format(e)
		checkParse(t, s, e, api.OK)
	}
}

// P7.4
func TestParseOfKnownTexts(t *testing.T) {
	for _, x := range known {
		checkParse(t, x.text, x.e, api.OK)
	}
}

// P7.4: texts with fewer and more than nine parts, and with other spaces than one between two parts.
func TestParseOfWrongParts(t *testing.T) {
	for _, x := range known {
		parts := strings.Split(x.text, " ")
		for n := range parts {
			refuses(t, strings.Join(parts[:n], " "), api.ErrForm)
			refuses(t, strings.Join(parts[n+1:], " "), api.ErrForm)
			left, right := strings.Join(parts[:n], " "), strings.Join(parts[n:], " ")
			if n > 0 {
				for _, between := range []string{"", "  ", "   ", "\t", "\n", " \t", "\u00A0", "\u2003", "\x00", ",", "+", "-", " 0 ", " + "} {
					refuses(t, left+between+right, api.ErrForm)
				}
			}
			removed := append(append([]string{}, parts[:n]...), parts[n+1:]...)
			refuses(t, strings.Join(removed, " "), api.ErrForm)
			doubled := append(append([]string{}, parts[:n+1]...), parts[n:]...)
			refuses(t, strings.Join(doubled, " "), api.ErrForm)
			empty := append(append(append([]string{}, parts[:n]...), ""), parts[n+1:]...)
			refuses(t, strings.Join(empty, " "), api.ErrForm)
		}
		for _, s := range []string{" ", "  ", "\n", "\t", "\x00", " 0", " other", "0 ", "\r\n"} {
			refuses(t, s+x.text, api.ErrForm)
			refuses(t, x.text+s, api.ErrForm)
		}
		refuses(t, x.text+" "+x.text, api.ErrForm)
		refuses(t, x.text+strings.Repeat(" 0", 100000), api.ErrForm)
	}
	for _, s := range []string{"", " ", "        ", "         ", "0", "other", "0 0 0 0 0 0 0 0 0", "0 0 0 0 0 0 0 0 other", strings.Repeat(" ", 100000)} {
		refuses(t, s, api.ErrForm)
	}
}

// withNumber returns a text of an event of another Type than those with words of their own, whose number i is replaced.
func withNumber(i int, digits string) string {
	parts := []string{"1", "2", "3", "4", "5", "6", "+", "789abc", "other"}
	parts[i] = digits
	return strings.Join(parts, " ")
}

// P7.4
func TestParseOfTextsWithWrongNumbers(t *testing.T) {
	for i := range 6 {
		for _, digits := range []string{
			"", "+", "-", "+1", "-1", "-0", "+0", "00", "01", "07", "000", "0001", "0000000000", "0000000001", "00000000001", "00000000000",
			"10000000000", "99999999999", "42949672960", "18446744073709551616", "18446744073709551617", "9223372036854775807", "9223372036854775808", "100000000000000000000", "36893488147419103233", strings.Repeat("9", 1000), strings.Repeat("0", 1000), strings.Repeat("1", 100000),
			"a", "1a", "a1", "0x1", "0X1", "0b1", "0o1", "1_0", "1e1", "1.0", ".1", "1.", "1,0", "1'0", "/", ":", "1/", "1:", "1-", "1+", "inf", "NaN", "nil", "\t1", "1\n", "\x001", "1\x00", "\xB1", "\uFF11", "\u0661", "\u00B2",
			"6553a", "42949672a5", "25a",
		} {
			refuses(t, withNumber(i, digits), api.ErrForm)
		}
	}
}

// P7.4: the greatest number of each field and one more, and numbers that would fit if they were cut to the field's bits.
func TestParseOfGreatNumbers(t *testing.T) {
	for i, x := range []struct {
		good, bad []string
		greatest  string
		atMost    api.Errno
	}{
		{[]string{"0", "9", "10", "65533", "65534"}, []string{"65536", "65537", "65538", "99999", "100000", "131072", "4294967295", "4294967296", "4294967297", "9999999999"}, "65535", api.ErrInvalid},
		{[]string{"0", "9", "10", "65536", "999999999", "1000000000", "2147483647", "2147483648", "4294967293", "4294967294"}, []string{"4294967296", "4294967297", "4294967298", "5000000000", "8589934592", "9999999999"}, "4294967295", api.ErrInvalid},
		{[]string{"0", "9", "10", "65533", "65534"}, []string{"65536", "65537", "65538", "99999", "100000", "131072", "4294967295", "4294967296", "4294967297", "9999999999"}, "65535", api.OK},
		{[]string{"0", "9", "10", "254"}, []string{"256", "257", "258", "260", "300", "511", "512", "999", "1000", "65536", "4294967296", "9999999999"}, "255", api.OK},
		{[]string{"0", "9", "10", "254"}, []string{"256", "257", "258", "260", "300", "511", "512", "999", "1000", "65536", "4294967296", "9999999999"}, "255", api.OK},
		{[]string{"0", "9", "10", "127"}, []string{"256", "257", "258", "260", "300", "367", "511", "512", "999", "1000", "65536", "4294967296", "9999999999"}, "255", api.ErrInvalid},
	} {
		for _, digits := range x.good {
			if e := checkParseByModel(t, withNumber(i, digits)); e != api.OK {
				t.Errorf("%q ought to be accepted", withNumber(i, digits))
			}
		}
		for _, digits := range x.bad {
			refuses(t, withNumber(i, digits), api.ErrRange)
		}
		if e := checkParseByModel(t, withNumber(i, x.greatest)); e != x.atMost {
			t.Errorf("%q ought to be error %d", withNumber(i, x.greatest), x.atMost)
		}
	}
}

// P7.4
func TestParseOfEachType(t *testing.T) {
	for eventType := range 256 {
		for _, word := range []string{"threshold", "state", "other"} {
			for _, sign := range []string{"+", "-"} {
				want := api.Event{Generator: 32, Type: uint8(eventType), Deassert: sign == "-", Data: [3]uint8{0x50, 1, 2}}
				fits := "other"
				switch eventType {
				case 1:
					fits = "threshold"
				case 111:
					fits = "state"
				}
				s := strings.Join([]string{"0 0 32 0 0", itoa(eventType), sign, "500102", word}, " ")
				switch {
				case word != fits:
					refuses(t, s, api.ErrForm)
				case eventType > 127:
					refuses(t, s, api.ErrInvalid)
				default:
					checkParse(t, s, want, api.OK)
				}
			}
		}
	}
}

// P7.4
func TestParseOfOtherWords(t *testing.T) {
	for _, eventType := range []string{"0", "1", "2", "111", "127", "128", "129", "239", "255"} {
		for _, word := range []string{
			"", "t", "thresholds", "thresholD", "Threshold", "THRESHOLD", "hreshold", "states", "State", "STATE", "stat", "others", "Other", "OTHER", "othe", "oether",
			"none", "discrete", "+", "-", "0", "1", "111", "threshold\x00", "state\n", "\tother", "thresholdstate", "threshold|state", "analog", "\u0455tate",
		} {
			refuses(t, "0 0 0 0 0 "+eventType+" + 000000 "+word, api.ErrForm)
		}
	}
}

// P7.4
func TestParseOfOtherSigns(t *testing.T) {
	for _, sign := range []string{"", "0", "1", "++", "--", "+-", "-+", "+1", "-1", "\u2212", "\uFF0B", "\u00B1", "*", ",", ".", "/", "assert", "a", "true", "+\x00", "\n-", "~"} {
		for _, before := range []string{"1 2 3 4 5 6", "0 0 0 0 0 0"} {
			refuses(t, before+" "+sign+" 000000 other", api.ErrForm)
		}
	}
	for c := range 256 {
		if c != '+' && c != '-' {
			refuses(t, "1 2 3 4 5 6 "+string([]byte{byte(c)})+" 000000 other", api.ErrForm)
		}
	}
}

// P7.4
func TestParseOfWrongData(t *testing.T) {
	for _, data := range []string{
		"", "0", "00", "0000", "00000", "0000000", "00000000", "12345", "1234567", strings.Repeat("0", 1000), strings.Repeat("a", 100000),
		"ABCDEF", "abcdeF", "Abcdef", "aBcdef", "00000A", "A00000", "00F000", "00000g", "g00000", "00z000", "0x0000", "0X0000", "+00000", "-00000", "-12345",
		"00-000", "00000 ", "00_000", "00.000", "00:000", "00/000", "00`000", "00@000", "0000\uFF10", "000\u0660", "\x0000000", "00000\x00", "00000\n", "\t00000", "000\xE1", "\xB0\xB0\xB0\xB0\xB0\xB0",
	} {
		for _, sign := range []string{"+", "-"} {
			refuses(t, "1 2 3 4 5 6 "+sign+" "+data+" other", api.ErrForm)
		}
	}
	for at := range 6 {
		for c := range 256 {
			data := []byte("90af09")
			data[at] = byte(c)
			s := "1 2 3 4 5 6 + " + string(data) + " other"
			good := strings.IndexByte("0123456789abcdef", byte(c)) >= 0
			if e := checkParseByModel(t, s); good != (e == api.OK) || !good && e != api.ErrForm {
				t.Errorf("%q is error %d", s, e)
			}
		}
	}
}

// P7.4
func TestOrderOfErrorsOfParse(t *testing.T) {
	for _, x := range []struct {
		s    string
		want api.Errno
	}{
		// A number that is too great, and a part that is not well-formed before or behind it.
		{"65536 0 0 0 0 0 + 000000", api.ErrForm},
		{"65536 0 0 0 0 0 + 000000 other ", api.ErrForm},
		{" 65536 0 0 0 0 0 + 000000 other", api.ErrForm},
		{"65536 0 0 0 0 0 + 000000 other other", api.ErrForm},
		{"65536 4294967296 65536 256 256 256 + 000000 others", api.ErrForm},
		{"65536 01 0 0 0 0 + 000000 other", api.ErrForm},
		{"01 4294967296 0 0 0 0 + 000000 other", api.ErrForm},
		{"65536 0 0 0 0 -1 + 000000 other", api.ErrForm},
		{"65536 0 0 0 0 00 + 000000 other", api.ErrForm},
		{"0 0 0 0 0 256 * 000000 other", api.ErrForm},
		{"0 0 0 0 0 256 + 00000 other", api.ErrForm},
		{"0 0 0 0 0 256 + 00000A other", api.ErrForm},
		{"0 0 0 0 0 256 + 000000 Other", api.ErrForm},
		{"0 0 0 0 256 0 + 000000 ", api.ErrForm},
		{"0 0 0 256 0 10000000000 + 000000 other", api.ErrForm},
		{"10000000000 4294967296 0 0 0 0 + 000000 other", api.ErrForm},
		// A number that is too great, and one of the three words that is not that of the Type.
		{"65536 0 0 0 0 0 + 000000 threshold", api.ErrRange},
		{"65536 0 0 0 0 1 + 000000 other", api.ErrRange},
		{"0 4294967296 0 0 0 1 + 000000 state", api.ErrRange},
		{"0 0 65536 0 0 111 + 000000 threshold", api.ErrRange},
		{"0 0 0 256 0 111 - 000000 other", api.ErrRange},
		{"0 0 0 0 256 2 - 000000 state", api.ErrRange},
		{"0 0 0 0 0 256 + 000000 threshold", api.ErrRange},
		{"0 0 0 0 0 257 + 000000 threshold", api.ErrRange},
		{"0 0 0 0 0 257 + 000000 other", api.ErrRange},
		{"0 0 0 0 0 367 + 000000 state", api.ErrRange},
		{"0 0 0 0 0 367 + 000000 other", api.ErrRange},
		// A number that is too great, and an event that is not valid.
		{"65535 4294967296 0 0 0 0 + 000000 other", api.ErrRange},
		{"65536 4294967295 0 0 0 255 + 000000 other", api.ErrRange},
		{"65535 4294967295 65536 0 0 128 + 000000 other", api.ErrRange},
		{"65535 4294967295 0 256 0 128 + 000000 threshold", api.ErrRange},
		{"65535 0 0 0 256 0 + 000000 other", api.ErrRange},
		{"65535 0 0 0 0 256 + 000000 other", api.ErrRange},
		// The word is not that of the Type, and the event is not valid.
		{"65535 0 0 0 0 0 + 000000 threshold", api.ErrForm},
		{"65535 0 0 0 0 1 + 000000 other", api.ErrForm},
		{"0 4294967295 0 0 0 111 + 000000 other", api.ErrForm},
		{"0 4294967295 0 0 0 111 - 000000 threshold", api.ErrForm},
		{"0 0 0 0 0 128 + 000000 state", api.ErrForm},
		{"0 0 0 0 0 129 - 000000 threshold", api.ErrForm},
		{"0 0 0 0 0 239 - 000000 state", api.ErrForm},
		{"0 0 0 0 0 255 + 000000 threshold", api.ErrForm},
		// The event is not valid, and a part is not well-formed.
		{"65535 0 0 0 0 0 + 000000 other ", api.ErrForm},
		{"65535 0 0 0 0 0  000000 other", api.ErrForm},
		{"0 4294967295 0 0 00 0 + 000000 other", api.ErrForm},
		{"0 0 0 0 0 128 + 0000000 other", api.ErrForm},
		// The event is not valid, and nothing else is wrong.
		{"65535 0 0 0 0 0 + 000000 other", api.ErrInvalid},
		{"65535 0 0 0 0 1 - 000000 threshold", api.ErrInvalid},
		{"0 4294967295 0 0 0 111 + 000000 state", api.ErrInvalid},
		{"0 0 0 0 0 128 + 000000 other", api.ErrInvalid},
		{"0 0 0 0 0 129 + 000000 other", api.ErrInvalid},
		{"0 0 0 0 0 239 - 000000 other", api.ErrInvalid},
		{"65535 4294967295 65535 255 255 255 - ffffff other", api.ErrInvalid},
		// Several numbers that are too great.
		{"65536 4294967296 65536 256 256 256 - ffffff other", api.ErrRange},
		{"9999999999 9999999999 9999999999 9999999999 9999999999 9999999999 + 000000 threshold", api.ErrRange},
	} {
		refuses(t, x.s, x.want)
	}
}

// P7.4
func TestParseWithEachByteAtEachPlace(t *testing.T) {
	for _, x := range known {
		s := x.text
		for i := range len(s) + 1 {
			for c := range 256 {
				b := string([]byte{byte(c)})
				checkParseByModel(t, s[:i]+b+s[i:])
				if i < len(s) {
					checkParseByModel(t, s[:i]+b+s[i+1:])
				}
			}
			for j := i; j <= len(s); j++ {
				checkParseByModel(t, s[:i]+s[j:])
			}
		}
	}
}

// drawPart returns a text for a part, of which most are well-formed.
func drawPart(r *rand.Rand, i int) string {
	if r.Intn(25) == 0 {
		all := []string{"", "0", "00", "+", "-", "other", "state", "threshold", "000000", "0a0A00", "01", "65536", "10000000000", "x"}
		return all[r.Intn(len(all))]
	}
	var l []string
	switch i {
	case 0, 2:
		l = []string{"0", "1", "65534", "65535", itoa(r.Intn(65536)), itoa(r.Intn(65536)), "65535", "65536", itoa(r.Intn(100000))}
	case 1:
		l = []string{"0", "1", "4294967294", "4294967295", "4294967296", itoa(r.Intn(1 << 32)), itoa(r.Intn(1 << 32)), itoa(r.Intn(1 << 31)), itoa(r.Intn(10_000_000_000))}
	case 3, 4:
		l = []string{"0", "1", "255", itoa(r.Intn(256)), itoa(r.Intn(256)), itoa(r.Intn(256)), "256", itoa(r.Intn(300))}
	case 5:
		l = []string{"1", "1", "111", "111", "0", "127", "128", "255", "256", "257", itoa(r.Intn(300))}
	case 6:
		l = []string{"+", "-"}
	case 7:
		const digits = "0123456789abcdef"
		b := make([]byte, 6)
		for j := range b {
			b[j] = digits[r.Intn(16)]
		}
		return string(b)
	default:
		l = []string{"threshold", "state", "other"}
	}
	return l[r.Intn(len(l))]
}

// P7.4
func TestParseOfDrawnTexts(t *testing.T) {
	r := rand.New(rand.NewSource(74))
	counts := map[api.Errno]int{}
	for range 100000 {
		var parts []string
		for i := range 9 {
			parts = append(parts, drawPart(r, i))
		}
		counts[checkParseByModel(t, strings.Join(parts, " "))]++
	}
	for _, e := range []api.Errno{api.OK, api.ErrForm, api.ErrRange, api.ErrInvalid} {
		if counts[e] < 1000 {
			t.Errorf("too few texts of a kind: %v", counts)
		}
	}
}

// R1
func FuzzParse(f *testing.F) {
	for _, x := range known {
		f.Add(x.text)
	}
	f.Add("65536 0 0 0 0 0 + 000000 other")
	f.Add("65535 0 0 0 0 1 + 000000 state")
	f.Add("0 0  0 0 0 0 + 000000 other")
	f.Fuzz(func(t *testing.T, s string) {
		checkParseByModel(t, s)
	})
}
