package curve_test

import (
	"math/big"
	"slices"
	"testing"

	"sheave/api"
	"sheave/curve"
	"sheave/sample"
)

// p is 2^255 - 19, reckoned here apart from the package's own table.
var p = new(big.Int).Sub(new(big.Int).Lsh(big.NewInt(1), 255), big.NewInt(19))

// value is the number of 32 bytes, the lowest first.
func value(a api.Key) *big.Int {
	b := a
	slices.Reverse(b[:])
	return new(big.Int).SetBytes(b[:])
}

// bytesOf are a number's 32 bytes; it must be below 2^256.
func bytesOf(n *big.Int) api.Key {
	var a api.Key
	n.FillBytes(a[:])
	slices.Reverse(a[:])
	return a
}

// leastOf are the least bytes of a number, which may be below 0.
func leastOf(n *big.Int) api.Key { return bytesOf(new(big.Int).Mod(n, p)) }

// filled are 32 bytes: a first one, a last one, the others between.
func filled(first, between, last byte) api.Key {
	var a api.Key
	for i := range a {
		a[i] = between
	}
	a[0], a[31] = first, last
	return a
}

// near are the bytes of times * p + off.
func near(times, off int64) api.Key {
	n := new(big.Int).Mul(p, big.NewInt(times))
	return bytesOf(n.Add(n, big.NewInt(off)))
}

// edges are bytes at which a carry, a borrow or a step by p begins or ends.
func edges() []api.Key {
	l := []api.Key{
		{}, {1}, {2}, {18}, {19}, {37}, {38}, {39}, {121},
		near(1, -2), near(1, -1), near(1, 0), near(1, 1), near(1, 18), near(1, 19),
		near(2, -2), near(2, -1), near(2, 0), near(2, 1), near(2, 36), near(2, 37),
		filled(0xff, 0xff, 0xff), filled(0, 0, 0x80), filled(0, 0, 0x40), filled(0, 0xff, 0xff),
	}
	for i := range 4 {
		var only, without api.Key
		for j := range only {
			only[j], without[j] = 0, 0xff
			if j/8 == i {
				only[j], without[j] = 0xff, 0
			}
		}
		l = append(l, only, without)
	}
	return l
}

// several are bytes without a rule that the arithmetic could lean on; the same each time.
func several(many int) []api.Key {
	var l []api.Key
	for b := range slices.Chunk(sample.Drawn(1, 32*many), 32) {
		l = append(l, api.Key(b))
	}
	return l
}

func numbers() []api.Key { return append(edges(), several(40)...) }

// P1.1: the chapter's examples, and edges that are told by their bytes.
func TestReckonedByHand(t *testing.T) {
	top, p := filled(0xff, 0xff, 0xff), filled(0xed, 0xff, 0x7f)
	lessOne := filled(0xec, 0xff, 0x7f)
	for i, x := range []struct{ got, want api.Key }{
		{curve.Canon(p), api.Key{}},
		{curve.Canon(top), api.Key{0x25}},
		{curve.Canon(filled(0xda, 0xff, 0xff)), api.Key{}},
		{curve.Canon(filled(0xd9, 0xff, 0xff)), lessOne},
		{curve.Canon(filled(0, 0, 0x80)), api.Key{19}},
		{curve.Canon(lessOne), lessOne},
		{curve.Canon(api.Key{}), api.Key{}},
		{curve.Add(lessOne, api.Key{1}), api.Key{}},
		{curve.Add(top, top), api.Key{0x4a}},
		{curve.Add(p, p), api.Key{}},
		{curve.Sub(api.Key{}, api.Key{1}), lessOne},
		{curve.Sub(api.Key{}, top), filled(0xc8, 0xff, 0x7f)},
		{curve.Sub(p, api.Key{}), api.Key{}},
		{curve.Mul(api.Key{2}, filled(0, 0, 0x80)), api.Key{0x26}},
		{curve.Mul(lessOne, lessOne), api.Key{1}},
		{curve.Mul(top, top), api.Key{0x59, 0x05}},
		{curve.Square(top), api.Key{0x59, 0x05}},
		{curve.Square(p), api.Key{}},
	} {
		if x.got != x.want {
			t.Errorf("row %d: %x, not %x", i, x.got, x.want)
		}
	}
}

// P1.1: against whole numbers without end.
func TestReckonsAsWholeNumbersDo(t *testing.T) {
	l := numbers()
	for _, a := range l {
		x := value(a)
		if got, want := curve.Canon(a), leastOf(x); got != want {
			t.Errorf("Canon(%x): %x, not %x", a, got, want)
		}
		if got, want := curve.Square(a), leastOf(new(big.Int).Mul(x, x)); got != want {
			t.Errorf("Square(%x): %x, not %x", a, got, want)
		}
		for _, b := range l {
			y := value(b)
			if got, want := curve.Add(a, b), leastOf(new(big.Int).Add(x, y)); got != want {
				t.Errorf("Add(%x, %x): %x, not %x", a, b, got, want)
			}
			if got, want := curve.Sub(a, b), leastOf(new(big.Int).Sub(x, y)); got != want {
				t.Errorf("Sub(%x, %x): %x, not %x", a, b, got, want)
			}
			if got, want := curve.Mul(a, b), leastOf(new(big.Int).Mul(x, y)); got != want {
				t.Errorf("Mul(%x, %x): %x, not %x", a, b, got, want)
			}
		}
	}
}

// P1.1: each of the 256 bits counts, the highest one too.
func TestEachBitCounts(t *testing.T) {
	for i := range 256 {
		var a api.Key
		a[i/8] = 1 << (i % 8)
		want := leastOf(new(big.Int).Lsh(big.NewInt(1), uint(i)))
		for _, got := range []api.Key{
			curve.Canon(a),
			curve.Add(a, api.Key{}),
			curve.Sub(a, api.Key{}),
			curve.Mul(a, api.Key{1}),
			curve.Mul(api.Key{1}, a),
		} {
			if got != want {
				t.Errorf("bit %d: %x, not %x", i, got, want)
			}
		}
	}
}

// P1.2: the chapter's examples, noughts, and what a product with the inverse is.
func TestInvert(t *testing.T) {
	for i, x := range []struct{ a, want api.Key }{
		{api.Key{2}, filled(0xf7, 0xff, 0x3f)},
		{filled(0xed, 0xff, 0x7f), api.Key{}},
		{filled(0xda, 0xff, 0xff), api.Key{}},
		{api.Key{}, api.Key{}},
		{api.Key{1}, api.Key{1}},
		{filled(0xee, 0xff, 0x7f), api.Key{1}},
		{filled(0xec, 0xff, 0x7f), filled(0xec, 0xff, 0x7f)},
	} {
		if got := curve.Invert(x.a); got != x.want {
			t.Errorf("row %d: %x, not %x", i, got, x.want)
		}
	}
	for _, a := range numbers() {
		got, want := curve.Invert(a), api.Key{}
		if inverse := new(big.Int).ModInverse(value(a), p); inverse != nil {
			want = bytesOf(inverse)
			if one := curve.Mul(a, got); one != (api.Key{1}) {
				t.Errorf("Invert(%x): the product is %x", a, one)
			}
		}
		if got != want {
			t.Errorf("Invert(%x): %x, not %x", a, got, want)
		}
	}
}

// P1.3: the same number in other bytes is the same; another one is not, wherever it differs.
func TestEqual(t *testing.T) {
	l := numbers()
	for _, a := range l {
		for _, b := range l {
			want := leastOf(value(a)) == leastOf(value(b))
			if got := curve.Equal(a, b); got != want {
				t.Errorf("Equal(%x, %x): %v", a, b, got)
			}
		}
		for i := range 256 {
			b := a
			b[i/8] ^= 1 << (i % 8)
			if curve.Equal(a, b) {
				t.Errorf("Equal(%x, %x)", a, b)
			}
		}
	}
	for off := range int64(38) {
		if !curve.Equal(near(0, off), near(1, off)) || !curve.Equal(near(1, off), near(2, off)) {
			t.Errorf("p, 2p and %d: not equal", off)
		}
	}
}

// P1.3: which of two hangs on the lowest bit alone, and its bytes stay as they are.
func TestPick(t *testing.T) {
	l := edges()
	for i, a := range l {
		b := l[(i+1)%len(l)]
		for bit := range 256 {
			want := a
			if bit%2 == 1 {
				want = b
			}
			if got := curve.Pick(byte(bit), a, b); got != want {
				t.Errorf("Pick(%d, %x, %x): %x", bit, a, b, got)
			}
		}
	}
}

// P1.4: what two numbers' sums and products keep to.
func TestLawsOfTwo(t *testing.T) {
	l := numbers()
	for _, a := range l {
		for _, b := range l {
			if curve.Add(a, b) != curve.Add(b, a) {
				t.Errorf("a sum does not change sides: %x %x", a, b)
			}
			if curve.Mul(a, b) != curve.Mul(b, a) {
				t.Errorf("a product does not change sides: %x %x", a, b)
			}
			if curve.Sub(curve.Add(a, b), b) != curve.Canon(a) {
				t.Errorf("Sub does not undo Add: %x %x", a, b)
			}
			for _, n := range []api.Key{curve.Add(a, b), curve.Sub(a, b), curve.Mul(a, b)} {
				if n != curve.Canon(n) {
					t.Errorf("not Canon of itself: %x, of %x %x", n, a, b)
				}
			}
		}
		for _, n := range []api.Key{curve.Canon(a), curve.Square(a), curve.Invert(a)} {
			if n != curve.Canon(n) {
				t.Errorf("not Canon of itself: %x, of %x", n, a)
			}
		}
	}
}

// P1.4: what three numbers' sums and products keep to.
func TestLawsOfThree(t *testing.T) {
	l := append(edges(), several(4)...)
	for _, a := range l {
		for _, b := range l {
			for _, c := range l {
				if curve.Add(a, curve.Add(b, c)) != curve.Add(curve.Add(a, b), c) {
					t.Errorf("a sum hangs on how it is put together: %x %x %x", a, b, c)
				}
				if curve.Mul(a, curve.Mul(b, c)) != curve.Mul(curve.Mul(a, b), c) {
					t.Errorf("a product hangs on how it is put together: %x %x %x", a, b, c)
				}
				if curve.Mul(a, curve.Add(b, c)) != curve.Add(curve.Mul(a, b), curve.Mul(a, c)) {
					t.Errorf("a product of a sum is not the sum of the products: %x %x %x", a, b, c)
				}
			}
		}
	}
}

func BenchmarkMul(b *testing.B) {
	l := several(2)
	for b.Loop() {
		l[0] = curve.Mul(l[0], l[1])
	}
}

func BenchmarkAdd(b *testing.B) {
	l := several(2)
	for b.Loop() {
		l[0] = curve.Add(l[0], l[1])
	}
}

func BenchmarkInvert(b *testing.B) {
	l := several(1)
	for b.Loop() {
		l[0] = curve.Invert(l[0])
	}
}
