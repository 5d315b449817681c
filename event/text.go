package event

import (
	"strconv"
	"strings"

	"baseboard/api"
)

// The parts of a text: numbers, and behind them the sign, the data and the word.
const (
	signPart  = 6
	dataPart  = 7
	wordPart  = 8
	partCount = 9

	maxDigits  = 10
	dataDigits = 6
	hexDigits  = "0123456789abcdef"

	assertedSign   = "+"
	deassertedSign = "-"

	thresholdWord = "threshold"
	stateWord     = "state"
	otherWord     = "other"
)

// greatest contains the greatest number of each field that is a number.
var greatest = [signPart]uint64{1<<16 - 1, 1<<32 - 1, 1<<16 - 1, 1<<8 - 1, 1<<8 - 1, 1<<8 - 1}

// Format returns the text of an event.
func Format(e api.Event) (string, api.Errno) {
	if !Valid(e) {
		return "", api.ErrInvalid
	}
	sign := assertedSign
	if e.Deassert {
		sign = deassertedSign
	}
	parts := []string{
		decimal(uint64(e.ID)), decimal(uint64(e.Time)), decimal(uint64(e.Generator)),
		decimal(uint64(e.SensorType)), decimal(uint64(e.Sensor)), decimal(uint64(e.Type)),
		sign, formatData(e.Data), wordOf(e.Type),
	}
	return strings.Join(parts, " "), api.OK
}

func decimal(v uint64) string {
	return strconv.FormatUint(v, 10)
}

func formatData(data [3]uint8) string {
	var b []byte
	for _, x := range data {
		b = append(b, hexDigits[x>>4], hexDigits[x&0xF])
	}
	return string(b)
}

func wordOf(eventType uint8) string {
	switch eventType {
	case api.TypeThreshold:
		return thresholdWord
	case api.TypeState:
		return stateWord
	}
	return otherWord
}

// Parse reads the text of an event.
func Parse(s string) (api.Event, api.Errno) {
	// One part too many shows that there are too many, however many there are.
	parts := strings.SplitN(s, " ", partCount+1)
	if len(parts) != partCount || !haveForm(parts) {
		return api.Event{}, api.ErrForm
	}
	var n [signPart]uint64
	for i, part := range parts[:signPart] {
		n[i] = readDecimal(part)
		if n[i] > greatest[i] {
			return api.Event{}, api.ErrRange
		}
	}
	e := api.Event{
		ID:         uint16(n[0]),
		Time:       uint32(n[1]),
		Generator:  uint16(n[2]),
		SensorType: uint8(n[3]),
		Sensor:     uint8(n[4]),
		Type:       uint8(n[5]),
		Deassert:   parts[signPart] == deassertedSign,
		Data:       readData(parts[dataPart]),
	}
	if parts[wordPart] != wordOf(e.Type) {
		return api.Event{}, api.ErrForm
	}
	if !Valid(e) {
		return api.Event{}, api.ErrInvalid
	}
	return e, api.OK
}

// haveForm reports whether each of nine parts is well-formed, whatever its number is and whichever of the words it has.
func haveForm(parts []string) bool {
	for _, part := range parts[:signPart] {
		if !isDecimal(part) {
			return false
		}
	}
	return isSign(parts[signPart]) && isData(parts[dataPart]) && isWord(parts[wordPart])
}

func isDecimal(s string) bool {
	if s == "" || len(s) > maxDigits || s[0] == '0' && s != "0" {
		return false
	}
	for _, c := range []byte(s) {
		if c < '0' || c > '9' {
			return false
		}
	}
	return true
}

func isSign(s string) bool {
	return s == assertedSign || s == deassertedSign
}

func isData(s string) bool {
	if len(s) != dataDigits {
		return false
	}
	for _, c := range []byte(s) {
		if strings.IndexByte(hexDigits, c) < 0 {
			return false
		}
	}
	return true
}

func isWord(s string) bool {
	return s == thresholdWord || s == stateWord || s == otherWord
}

func readDecimal(digits string) uint64 {
	v := uint64(0)
	for _, c := range []byte(digits) {
		v = 10*v + uint64(c-'0')
	}
	return v
}

func readData(digits string) [3]uint8 {
	var data [3]uint8
	for i := range data {
		high := strings.IndexByte(hexDigits, digits[2*i])
		low := strings.IndexByte(hexDigits, digits[2*i+1])
		data[i] = uint8(high<<4 | low)
	}
	return data
}
