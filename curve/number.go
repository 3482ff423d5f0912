package curve

import (
	"math/bits"

	"sheave/api"
	"sheave/words"
)

// number is one from 0 to 2^256 - 1, in words of 64 bits, the lowest first.
// It stands for what it is modulo p; only least makes it less than p.
type number [4]uint64

// prime is p, which is 2^255 - 19.
var prime = number{0xffffffffffffffed, 0xffffffffffffffff, 0xffffffffffffffff, 0x7fffffffffffffff}

// power is p - 2: a number raised to it is the number's inverse (Fermat).
var power = number{0xffffffffffffffeb, 0xffffffffffffffff, 0xffffffffffffffff, 0x7fffffffffffffff}

// wrapped is what 2^256 stands for: 2p + 38 is 2^256.
const wrapped = 38

func load(a api.Key) number {
	var n number
	for i := range n {
		n[i] = words.Of(a[8*i : 8*i+8])
	}
	return n
}

func save(n number) api.Key {
	n = least(n)
	var a api.Key
	for i, w := range n {
		words.Put(a[8*i:8*i+8], w)
	}
	return a
}

// plus is a + b without its 257th bit, and that bit.
func plus(a, b number) (number, uint64) {
	var carry uint64
	for i := range a {
		a[i], carry = bits.Add64(a[i], b[i], carry)
	}
	return a, carry
}

// minus is a - b, with 2^256 added if b is greater, and 1 if it is.
func minus(a, b number) (number, uint64) {
	var borrow uint64
	for i := range a {
		a[i], borrow = bits.Sub64(a[i], b[i], borrow)
	}
	return a, borrow
}

// least is what n stands for, from 0 to p - 1. Two steps do, since 3p is beyond 2^256.
func least(n number) number {
	for range 2 {
		n = lessen(n)
	}
	return n
}

// lessen takes p away from n, if n is not below p.
func lessen(n number) number {
	var less number
	var borrow uint64
	for i := range n {
		less[i], borrow = bits.Sub64(n[i], prime[i], borrow)
	}
	for i := range n {
		n[i] = words.Pick(borrow, less[i], n[i])
	}
	return n
}

// wrap stands for n + over * 2^256, where over is at most wrapped.
// When the first sum passes 2^256 little is left of it, so that the second one does not.
func wrap(n number, over uint64) number {
	n, carry := plus(n, number{over * wrapped})
	n, _ = plus(n, number{carry * wrapped})
	return n
}

func sum(a, b number) number {
	n, carry := plus(a, b)
	return wrap(n, carry)
}

// difference gives back downwards what was borrowed, as wrap does upwards.
func difference(a, b number) number {
	n, borrow := minus(a, b)
	n, borrow = minus(n, number{borrow * wrapped})
	n, _ = minus(n, number{borrow * wrapped})
	return n
}

func product(a, b number) number {
	var wide [8]uint64
	for i := range a {
		var carry uint64
		for j := range b {
			carry, wide[i+j] = words.Step(a[i], b[j], wide[i+j], carry)
		}
		wide[i+4] = carry
	}
	return fold(wide)
}

// fold brings a product's upper half down to its lower one.
func fold(wide [8]uint64) number {
	var n number
	var carry uint64
	for i := range n {
		carry, n[i] = words.Step(wide[i+4], wrapped, wide[i], carry)
	}
	return wrap(n, carry)
}

// inverse may branch on bits: those of power are no secret.
func inverse(a number) number {
	n := number{1}
	for i := 255; i >= 0; i-- {
		n = product(n, n)
		if power[i/64]>>(i%64)&1 == 1 {
			n = product(n, a)
		}
	}
	return n
}
