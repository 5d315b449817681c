package convert

import "baseboard/api"

const (
	signedFlag = 0x80

	factorSize   = 2
	exponentSize = 1
	valueSize    = 6
	linearSize   = 1 + 2*factorSize + 2*exponentSize
	pointSize    = 1 + valueSize
)

// Encode returns the bytes of a conversion.
func Encode(c api.Conversion) ([]byte, api.Errno) {
	if !Valid(c) {
		return nil, api.ErrInvalid
	}
	first := byte(c.Form)
	if c.Signed {
		first |= signedFlag
	}
	b := []byte{first}
	if c.Form == api.FormTable {
		return appendPoints(b, c.Points), api.OK
	}
	b = appendNumber(b, int64(c.M), factorSize)
	b = appendNumber(b, int64(c.B), factorSize)
	b = appendNumber(b, int64(c.K1), exponentSize)
	return appendNumber(b, int64(c.K2), exponentSize), api.OK
}

func appendPoints(b []byte, points []api.Point) []byte {
	b = append(b, byte(len(points)))
	for _, p := range points {
		b = append(b, p.Raw)
		b = appendNumber(b, p.Value, valueSize)
	}
	return b
}

func appendNumber(b []byte, v int64, size int) []byte {
	for range size {
		b = append(b, byte(v))
		v >>= 8
	}
	return b
}

// Decode reads a conversion at the beginning of b.
func Decode(b []byte) (api.Conversion, int, api.Errno) {
	n, e := encodedSize(b)
	if e != api.OK {
		return api.Conversion{}, 0, e
	}
	if len(b) < n {
		return api.Conversion{}, 0, api.ErrTruncated
	}
	c := read(b[:n])
	if !Valid(c) {
		return api.Conversion{}, 0, api.ErrInvalid
	}
	return c, n, api.OK
}

// encodedSize returns how many bytes the conversion has that b begins with.
func encodedSize(b []byte) (int, api.Errno) {
	if len(b) == 0 {
		return 0, api.ErrTruncated
	}
	form := b[0] &^ signedFlag
	if form < api.FormLinear || form > api.FormTable {
		return 0, api.ErrForm
	}
	if form != api.FormTable {
		return linearSize, api.OK
	}
	if len(b) == 1 {
		return 0, api.ErrTruncated
	}
	if b[1] < minPoints || b[1] > api.MaxPoints {
		return 0, api.ErrForm
	}
	return 2 + pointSize*int(b[1]), api.OK
}

// read returns the conversion that fills b, which has its size.
func read(b []byte) api.Conversion {
	c := api.Conversion{Form: int(b[0] &^ signedFlag), Signed: b[0]&signedFlag != 0}
	if c.Form == api.FormTable {
		for b = b[2:]; len(b) > 0; b = b[pointSize:] {
			c.Points = append(c.Points, api.Point{Raw: b[0], Value: number(b[1:pointSize])})
		}
		return c
	}
	c.M = int(number(b[1:3]))
	c.B = int(number(b[3:5]))
	c.K1 = int(number(b[5:6]))
	c.K2 = int(number(b[6:7]))
	return c
}

// number reads two's complement, the least significant byte first; b is not empty.
func number(b []byte) int64 {
	last := len(b) - 1
	v := int64(int8(b[last]))
	for i := last - 1; i >= 0; i-- {
		v = v<<8 | int64(b[i])
	}
	return v
}
