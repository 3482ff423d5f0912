// Package sample is what the tests of several layers have in common: bytes and numbers to try them with. No layer stands on it.
package sample

import (
	"bytes"
	"math"
	"slices"
	"strconv"

	"sheave/api"
)

// Hex reads bytes from hexadecimal digits. It panics at what is none, since that is a slip in the test itself.
func Hex(digits string) []byte {
	if len(digits)%2 != 0 {
		panic("half a byte: " + digits)
	}
	b := make([]byte, len(digits)/2)
	for i := range b {
		n, err := strconv.ParseUint(digits[2*i:2*i+2], 16, 8)
		if err != nil {
			panic(err)
		}
		b[i] = byte(n)
	}
	return b
}

// Drawn are bytes without a rule that the code could lean on; the same each time for a seed.
func Drawn(seed uint64, many int) []byte {
	b := make([]byte, many)
	for i := range b {
		seed = seed*6364136223846793005 + 1442695040888963407
		b[i] = byte(seed >> 56)
	}
	return b
}

// Kinds are so many bytes: of noughts, of ones, and without a rule.
func Kinds(many int) [][]byte {
	return [][]byte{make([]byte, many), bytes.Repeat([]byte{0xff}, many), Drawn(uint64(many), many)}
}

// Turned are the same bytes with one bit turned, the lowest of the first byte being bit 0.
func Turned(b []byte, bit int) []byte {
	b = bytes.Clone(b)
	b[bit/8] ^= 1 << (bit % 8)
	return b
}

// Spoil makes each byte another one, with the room behind the last: who still leans on them then is seen.
func Spoil(b []byte) {
	b = b[:cap(b)]
	for i := range b {
		b[i] ^= 0xff
	}
}

// Fill makes each thing of a list the same, with the room behind the last, as Spoil does with bytes.
func Fill[T any](l []T, x T) {
	l = l[:cap(l)]
	for i := range l {
		l[i] = x
	}
}

// Roomy are the same bytes with room behind them, filled with what must stay.
func Roomy(b []byte) []byte { return append(bytes.Clone(b), Drawn(99, 400)...)[:len(b)] }

// Whole are copies of the bytes and of what is in the room behind them.
func Whole(b []byte) []byte { return bytes.Clone(b[:cap(b)]) }

// Draw are numbers without a rule that the code could lean on, each below the one that is asked for; the same row each time for
// a seed.
func Draw(seed uint64) func(below int) int {
	const size = 6
	var b []byte
	return func(below int) int {
		if len(b) == 0 {
			b = Drawn(seed, size<<13)
			seed += 1 << 32
		}
		n := 0
		for _, x := range b[:size] {
			n = n<<8 | int(x)
		}
		b = b[size:]
		return n % below
	}
}

// Shuffled are the same things in an order without a rule, by such a draw.
func Shuffled[T any](l []T, draw func(below int) int) []T {
	l = slices.Clone(l)
	for i := range l {
		j := i + draw(len(l)-i)
		l[i], l[j] = l[j], l[i]
	}
	return l
}

// Orders are the same things in each order that there is.
func Orders[T any](l []T) [][]T {
	if len(l) == 0 {
		return [][]T{nil}
	}
	var all [][]T
	for i, x := range l {
		for _, others := range Orders(slices.Concat(l[:i], l[i+1:])) {
			all = append(all, append([]T{x}, others...))
		}
	}
	return all
}

// Rows are ranges, by their ends one behind the other.
func Rows(ends ...int) []api.Range {
	var l []api.Range
	for i := 0; i < len(ends); i += 2 {
		l = append(l, api.Range{From: ends[i], To: ends[i+1]})
	}
	return l
}

// Edges are numbers, below all places in a stream or beyond them, at which sums may go wrong.
func Edges() []int {
	return []int{math.MinInt, math.MinInt + 1, -1 << 62, -5, -1, 1 << 62, math.MaxInt - 1, math.MaxInt}
}
