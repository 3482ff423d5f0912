// Package words is what the layers that reckon have in common: words of up to 64 bits, and their bytes, the lowest first.
//
// No branch hangs on what a word is.
package words

import "math/bits"

// Of is the word of the first eight bytes. They are written out one by one, since the compiler then reads them at once.
func Of(b []byte) uint64 {
	return uint64(b[0]) | uint64(b[1])<<8 | uint64(b[2])<<16 | uint64(b[3])<<24 |
		uint64(b[4])<<32 | uint64(b[5])<<40 | uint64(b[6])<<48 | uint64(b[7])<<56
}

// Put writes a word's eight bytes to the beginning of b.
func Put(b []byte, w uint64) {
	b[0], b[1], b[2], b[3] = byte(w), byte(w>>8), byte(w>>16), byte(w>>24)
	b[4], b[5], b[6], b[7] = byte(w>>32), byte(w>>40), byte(w>>48), byte(w>>56)
}

// Of32 is the word of the first four bytes.
func Of32(b []byte) uint32 {
	return uint32(b[0]) | uint32(b[1])<<8 | uint32(b[2])<<16 | uint32(b[3])<<24
}

// Put32 writes a word's four bytes to the beginning of b.
func Put32(b []byte, w uint32) {
	b[0], b[1], b[2], b[3] = byte(w), byte(w>>8), byte(w>>16), byte(w>>24)
}

// Pick is a, if bit is 0, and b, if it is 1.
func Pick(bit, a, b uint64) uint64 { return a ^ -bit&(a^b) }

// Step is a * b + c + d, which is never beyond two words.
func Step(a, b, c, d uint64) (high, low uint64) {
	high, low = bits.Mul64(a, b)
	low, carry := bits.Add64(low, c, 0)
	high += carry
	low, carry = bits.Add64(low, d, 0)
	return high + carry, low
}
