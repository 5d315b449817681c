package sensor

import (
	"baseboard/api"
	"baseboard/checksum"
	"baseboard/convert"
)

const (
	firstByte = 1

	discreteFlag = 1
	hostOnFlag   = 2
	samplesUnit  = 4 // the flags count the samples in this unit
	flagsEnd     = 32

	flagsAt      = 6
	nameSizeAt   = 7
	headSize     = 8 // the bytes before Name
	sumSize      = 1
	analogSize   = 13 // the bytes behind the conversion
	discreteSize = 6  // the bytes behind Name
)

// Encode returns the bytes of a sensor record.
func Encode(s api.Sensor) ([]byte, api.Errno) {
	if !Valid(s) {
		return nil, api.ErrInvalid
	}
	b := []byte{firstByte, s.Number, s.Type, s.Unit, s.Entity.ID, s.Entity.Instance, flagsOf(s), byte(len(s.Name))}
	b = append(b, s.Name...)
	if s.Discrete {
		b = appendNumber(b, s.States)
	} else {
		b = appendAnalog(b, s)
	}
	b = appendNumber(b, s.Assert)
	b = appendNumber(b, s.Deassert)
	return checksum.Seal8(b), api.OK
}

func flagsOf(s api.Sensor) byte {
	flags := byte(samplesUnit * s.Samples)
	if s.Discrete {
		flags |= discreteFlag
	}
	if s.HostOn {
		flags |= hostOnFlag
	}
	return flags
}

// appendAnalog appends what analog sensors have in place of States; s is valid.
func appendAnalog(b []byte, s api.Sensor) []byte {
	c, _ := convert.Encode(s.Conversion)
	b = append(b, c...)
	b = append(b, s.Limits.Mask)
	b = append(b, s.Limits.Raw[:]...)
	return append(b, s.HystLower, s.HystUpper)
}

func appendNumber(b []byte, v uint16) []byte {
	return append(b, byte(v), byte(v>>8))
}

// Decode reads a sensor record.
func Decode(b []byte) (api.Sensor, api.Errno) {
	if len(b) < headSize+sumSize {
		return api.Sensor{}, api.ErrTruncated
	}
	opened, e := checksum.Open8(b)
	if e != api.OK {
		return api.Sensor{}, e
	}
	s, e := read(opened)
	if e != api.OK {
		return api.Sensor{}, e
	}
	if !Valid(s) {
		return api.Sensor{}, api.ErrInvalid
	}
	return s, api.OK
}

// read returns the record that fills b, which has at least headSize bytes; it need not be valid.
func read(b []byte) (api.Sensor, api.Errno) {
	flags, nameEnd := b[flagsAt], headSize+int(b[nameSizeAt])
	if b[0] != firstByte || flags >= flagsEnd {
		return api.Sensor{}, api.ErrForm
	}
	if len(b) < nameEnd {
		return api.Sensor{}, api.ErrTruncated
	}
	s := api.Sensor{
		Number:   b[1],
		Type:     b[2],
		Unit:     b[3],
		Name:     string(b[headSize:nameEnd]),
		Entity:   api.Entity{ID: b[4], Instance: b[5]},
		Discrete: flags&discreteFlag != 0,
		HostOn:   flags&hostOnFlag != 0,
		Samples:  int(flags / samplesUnit),
	}
	if s.Discrete {
		return readDiscrete(s, b[nameEnd:])
	}
	return readAnalog(s, b[nameEnd:])
}

// readAnalog adds to s what stands behind its name.
func readAnalog(s api.Sensor, b []byte) (api.Sensor, api.Errno) {
	c, n, e := convert.Decode(b)
	if e != api.OK {
		return api.Sensor{}, e
	}
	b = b[n:]
	if e := checkSize(b, analogSize); e != api.OK {
		return api.Sensor{}, e
	}
	s.Conversion = c
	s.Limits.Mask = b[0]
	copy(s.Limits.Raw[:], b[1:7])
	s.HystLower, s.HystUpper = b[7], b[8]
	s.Assert, s.Deassert = number(b[9:]), number(b[11:])
	return s, api.OK
}

// readDiscrete adds to s what stands behind its name.
func readDiscrete(s api.Sensor, b []byte) (api.Sensor, api.Errno) {
	if e := checkSize(b, discreteSize); e != api.OK {
		return api.Sensor{}, e
	}
	s.States, s.Assert, s.Deassert = number(b), number(b[2:]), number(b[4:])
	return s, api.OK
}

func checkSize(b []byte, size int) api.Errno {
	switch {
	case len(b) < size:
		return api.ErrTruncated
	case len(b) > size:
		return api.ErrForm
	}
	return api.OK
}

func number(b []byte) uint16 {
	return uint16(b[0]) | uint16(b[1])<<8
}
