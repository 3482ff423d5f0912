// Package sample is what the tests of several layers have in common: bytes to try them with. No layer stands on it.
package sample

import (
	"bytes"
	"strconv"
)

// Hex reads bytes from hexadecimal digits. It panics at what is none, since that is a slip in the test itself.
func Hex(digits string) []byte {
	if len(digits)%2 != 0 {
		panic("half a byte: " + digits)
	}
	b := make([]byte, len(digits)/2)
	for i := range b {
		n, err := strconv.ParseUint(digits[2*i:2*i+2], 16, 8)
		if err != nil {
			panic(err)
		}
		b[i] = byte(n)
	}
	return b
}

// Drawn are bytes without a rule that the code could lean on; the same each time for a seed.
func Drawn(seed uint64, many int) []byte {
	b := make([]byte, many)
	for i := range b {
		seed = seed*6364136223846793005 + 1442695040888963407
		b[i] = byte(seed >> 56)
	}
	return b
}

// Kinds are so many bytes: of noughts, of ones, and without a rule.
func Kinds(many int) [][]byte {
	return [][]byte{make([]byte, many), bytes.Repeat([]byte{0xff}, many), Drawn(uint64(many), many)}
}

// Turned are the same bytes with one bit turned, the lowest of the first byte being bit 0.
func Turned(b []byte, bit int) []byte {
	b = bytes.Clone(b)
	b[bit/8] ^= 1 << (bit % 8)
	return b
}
