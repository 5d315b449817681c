// Package checksum computes checksums and seals byte strings with them.
package checksum

import (
	"slices"

	"baseboard/api"
)

const (
	polynomial8  = 0x07
	polynomial32 = 0xEDB88320 // its bits are reversed, because CRC-32 shifts to the right
)

// Sum8 returns the byte that makes the sum of all bytes a multiple of 256.
func Sum8(b []byte) uint8 {
	var sum uint8
	for _, x := range b {
		sum += x
	}
	return -sum
}

// CRC8 returns the CRC-8 of the two-wire bus.
func CRC8(b []byte) uint8 {
	var c uint8
	for _, x := range b {
		c ^= x
		for range 8 {
			out := c >> 7
			c <<= 1
			if out == 1 {
				c ^= polynomial8
			}
		}
	}
	return c
}

// CRC32 returns the CRC-32 of IEEE 802.3.
func CRC32(b []byte) uint32 {
	c := ^uint32(0)
	for _, x := range b {
		c ^= uint32(x)
		for range 8 {
			out := c & 1
			c >>= 1
			if out == 1 {
				c ^= polynomial32
			}
		}
	}
	return ^c
}

// Seal8 returns b with its 8-bit sum behind it.
func Seal8(b []byte) []byte {
	return join(b, Sum8(b))
}

// Open8 checks and removes an 8-bit sum.
func Open8(b []byte) ([]byte, api.Errno) {
	n := len(b) - 1
	if n < 0 {
		return nil, api.ErrTruncated
	}
	if Sum8(b) != 0 {
		return nil, api.ErrChecksum
	}
	return slices.Clone(b[:n]), api.OK
}

// SealCRC8 returns b with its CRC-8 behind it.
func SealCRC8(b []byte) []byte {
	return join(b, CRC8(b))
}

// OpenCRC8 checks and removes a CRC-8.
func OpenCRC8(b []byte) ([]byte, api.Errno) {
	n := len(b) - 1
	if n < 0 {
		return nil, api.ErrTruncated
	}
	if CRC8(b[:n]) != b[n] {
		return nil, api.ErrChecksum
	}
	return slices.Clone(b[:n]), api.OK
}

// SealCRC32 returns b with its CRC-32 behind it.
func SealCRC32(b []byte) []byte {
	c := CRC32(b)
	return join(b, byte(c), byte(c>>8), byte(c>>16), byte(c>>24))
}

// OpenCRC32 checks and removes a CRC-32.
func OpenCRC32(b []byte) ([]byte, api.Errno) {
	n := len(b) - 4
	if n < 0 {
		return nil, api.ErrTruncated
	}
	if CRC32(b[:n]) != littleEndian(b[n:]) {
		return nil, api.ErrChecksum
	}
	return slices.Clone(b[:n]), api.OK
}

// join makes a new slice, because append to b could write into the caller's spare capacity.
func join(b []byte, tail ...byte) []byte {
	joined := make([]byte, 0, len(b)+len(tail))
	joined = append(joined, b...)
	return append(joined, tail...)
}

func littleEndian(b []byte) uint32 {
	return uint32(b[0]) | uint32(b[1])<<8 | uint32(b[2])<<16 | uint32(b[3])<<24
}
