package ladder

import (
	"sheave/api"
	"sheave/curve"
)

// rungs are the bits of a trimmed secret: its highest one is always cleared.
const rungs = 255

// rung is two neighbouring multiples of a point, each as a fraction x / z, so that one inverse does at the end.
type rung struct{ x2, z2, x3, z3 api.Key }

// start is no point at all (a fraction by 0), and the point u.
func start(u api.Key) rung {
	return rung{x2: api.Key{1}, x3: u, z3: api.Key{1}}
}

// exchange turns both fractions round, if bit is odd; the same is done if it is even, so that no time tells it.
func exchange(bit byte, r rung) rung {
	return rung{
		x2: curve.Pick(bit, r.x2, r.x3),
		z2: curve.Pick(bit, r.z2, r.z3),
		x3: curve.Pick(bit, r.x3, r.x2),
		z3: curve.Pick(bit, r.z3, r.z2),
	}
}

// climb doubles the first fraction, and adds it to the second one; u is what the two differ by.
func climb(u api.Key, r rung) rung {
	a, b := curve.Add(r.x2, r.z2), curve.Sub(r.x2, r.z2)
	c, d := curve.Add(r.x3, r.z3), curve.Sub(r.x3, r.z3)
	da, cb := curve.Mul(d, a), curve.Mul(c, b)
	aa, bb := curve.Square(a), curve.Square(b)
	e := curve.Sub(aa, bb)
	return rung{
		x2: curve.Mul(aa, bb),
		z2: curve.Mul(e, curve.Add(aa, bent(e))),
		x3: curve.Square(curve.Add(da, cb)),
		z3: curve.Mul(u, curve.Square(curve.Sub(da, cb))),
	}
}

// bent is 121665 times e: the curve's own number (its 486662 less 2, by 4).
func bent(e api.Key) api.Key { return curve.Mul(api.Key{0x41, 0xdb, 0x01}, e) }
