// Package curve is layer 1: numbers modulo 2^255 - 19: see shared/doc/01-curve.md.
//
// No branch and no index hangs on the numbers themselves, since secrets are among them.
package curve

import "sheave/api"

// Canon are the least bytes of a number.
func Canon(a api.Key) api.Key { return save(load(a)) }

// Add are the least bytes of a sum.
func Add(a, b api.Key) api.Key { return save(sum(load(a), load(b))) }

// Sub are the least bytes of a difference.
func Sub(a, b api.Key) api.Key { return save(difference(load(a), load(b))) }

// Mul are the least bytes of a product.
func Mul(a, b api.Key) api.Key { return save(product(load(a), load(b))) }

// Square are the least bytes of a number's product with itself.
func Square(a api.Key) api.Key {
	n := load(a)
	return save(product(n, n))
}

// Invert are the least bytes of the number whose product with a is 1; noughts, if there is none.
func Invert(a api.Key) api.Key { return save(inverse(load(a))) }

// Equal tells whether two stand for the same number.
func Equal(a, b api.Key) bool {
	x, y := least(load(a)), least(load(b))
	var differ uint64
	for i := range x {
		differ |= x[i] ^ y[i]
	}
	return differ == 0
}

// Pick is a, if bit is even, else b: the bytes as they are.
func Pick(bit byte, a, b api.Key) api.Key {
	mask := -(bit & 1)
	for i := range a {
		a[i] ^= mask & (a[i] ^ b[i])
	}
	return a
}
