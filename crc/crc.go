// Package crc is layer 1, a check sum of 32 bits: see shared/doc/01-crc.md.
package crc

import "bytes"

const (
	polynomial = 0xEDB88320
	sumBytes   = 4
	byteBits   = 8
)

// Sum is the sum of bytes.
func Sum(data []byte) uint32 { return More(0, data) }

// More is the sum of more bytes, behind those whose sum is handed in.
func More(sum uint32, data []byte) uint32 {
	rest := ^sum
	for _, b := range data {
		rest = eightSteps(rest ^ uint32(b))
	}
	return ^rest
}

// eightSteps takes a byte that was put into the lowest bits out of them again.
func eightSteps(rest uint32) uint32 {
	left := byteBits
step:
	lowest := rest & 1
	rest >>= 1
	if lowest == 1 {
		rest ^= polynomial
	}
	left--
	if left > 0 {
		goto step
	}
	return rest
}

// Bytes is a sum as bytes, the lowest first: only in that order are turned bits side by side found across the border between bytes and their sum, too.
func Bytes(sum uint32) []byte {
	return []byte{byte(sum), byte(sum >> 8), byte(sum >> 16), byte(sum >> 24)}
}

// Whole tells whether bytes end with their sum.
func Whole(data []byte) bool {
	if len(data) < sumBytes {
		return false
	}
	border := len(data) - sumBytes
	return bytes.Equal(data[border:], Bytes(Sum(data[:border])))
}
