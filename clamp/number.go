package clamp

import (
	"math/bits"

	"sheave/api"
	"sheave/words"
)

// number is one of up to 192 bits, in words of 64, the lowest first, and stands for what it is modulo q.
// It is called folded where it is at most 2^130 + 1000: so are what load, fold and product answer.
type number [3]uint64

// modulus is q, which is 2^130 - 5.
var modulus = number{0xfffffffffffffffb, 0xffffffffffffffff, 3}

// wrapped is what 2^130 stands for: q + 5 is 2^130.
const wrapped = 5

func load(a api.Big) number { return fold(split(a)) }

func save(n number) api.Big { return join(least(n)) }

// split takes bytes as they are.
func split(a api.Big) number {
	return number{words.Of(a[0:8]), words.Of(a[8:16]), uint64(a[16])}
}

// join leaves out what is beyond 17 bytes.
func join(n number) api.Big {
	var a api.Big
	words.Put(a[0:8], n[0])
	words.Put(a[8:16], n[1])
	a[16] = byte(n[2])
	return a
}

// plus is the sum, which no caller lets come near 2^192.
func plus(a, b number) number {
	var carry uint64
	for i := range a {
		a[i], carry = bits.Add64(a[i], b[i], carry)
	}
	return a
}

// fold brings down what is above 130 bits. It takes numbers below 2^137, of which less than 2^7 times 5 comes down.
func fold(n number) number {
	var carry uint64
	n[0], carry = bits.Add64(n[0], n[2]>>2*wrapped, 0)
	n[1], carry = bits.Add64(n[1], 0, carry)
	n[2] = n[2]&3 + carry
	return n
}

// least is what a folded n stands for, from 0 to q - 1. One step does, since 2q is far beyond.
func least(n number) number {
	var less number
	var borrow uint64
	for i := range n {
		less[i], borrow = bits.Sub64(n[i], modulus[i], borrow)
	}
	for i := range n {
		n[i] = words.Pick(borrow, less[i], n[i])
	}
	return n
}

// product takes folded numbers, which are below 2^131: theirs has at most 262 bits.
func product(a, b number) number {
	var wide [6]uint64
	for i := range a {
		var carry uint64
		for j := range b {
			carry, wide[i+j] = words.Step(a[i], b[j], wide[i+j], carry)
		}
		wide[i+3] = carry
	}
	return lower(wide)
}

// lower brings down a product's bits above 130: five times those are four times and once, and four times are where
// the words stand already. That is below 2^135, and so is folded once more.
func lower(wide [6]uint64) number {
	low := number{wide[0], wide[1], wide[2] & 3}
	four := number{wide[2] &^ 3, wide[3], wide[4]}
	once := number{wide[2]>>2 | wide[3]<<62, wide[3]>>2 | wide[4]<<62, wide[4] >> 2}
	return fold(plus(plus(low, four), once))
}
