package clamp_test

import (
	"bytes"
	"math/big"
	"slices"
	"testing"

	"sheave/api"
	"sheave/clamp"
	"sheave/sample"
)

// q is 2^130 - 5, reckoned here apart from the package's own table.
var q = new(big.Int).Sub(new(big.Int).Lsh(big.NewInt(1), 130), big.NewInt(5))

// value is the number of bytes, the lowest first.
func value(b []byte) *big.Int {
	b = bytes.Clone(b)
	slices.Reverse(b)
	return new(big.Int).SetBytes(b)
}

// bytesOf are a number's 17 bytes; it must be below 2^136.
func bytesOf(n *big.Int) api.Big {
	var a api.Big
	n.FillBytes(a[:])
	slices.Reverse(a[:])
	return a
}

func leastOf(n *big.Int) api.Big { return bytesOf(new(big.Int).Mod(n, q)) }

// near are the bytes of times * q + off.
func near(times, off int64) api.Big {
	n := new(big.Int).Mul(q, big.NewInt(times))
	return bytesOf(n.Add(n, big.NewInt(off)))
}

// filled are 17 bytes: a first one, a last one, the others between.
func filled(first, between, last byte) api.Big {
	var a api.Big
	for i := range a {
		a[i] = between
	}
	a[0], a[16] = first, last
	return a
}

// edges are bytes at which a carry, or a step by q, begins or ends.
func edges() []api.Big {
	l := []api.Big{
		{}, {1}, {2}, {4}, {5}, {6}, {0x3f, 1},
		near(1, -2), near(1, -1), near(1, 0), near(1, 1), near(1, 4), near(1, 5), near(1, 6),
		near(2, -1), near(2, 0), near(2, 1), near(2, 5), near(2, 10), near(3, 0), near(4, 0), near(4, -1),
		near(63, 0), near(63, -1), near(64, 0), near(64, -1), near(64, 319),
		filled(0xff, 0xff, 0xff), filled(0xff, 0xff, 3), filled(0xff, 0xff, 1), filled(0xff, 0xff, 0),
		filled(0, 0, 4), filled(0, 0, 8), filled(0, 0, 2), filled(0, 0, 1), filled(0, 0, 0x80), filled(0, 0xff, 0xff),
	}
	for i := range 2 {
		var only, without api.Big
		for j := range only {
			without[j] = 0xff
			if j/8 == i {
				only[j], without[j] = 0xff, 0
			}
		}
		l = append(l, only, without)
	}
	return l
}

// several are bytes without a rule that the arithmetic could lean on; the same each time.
func several(many int) []api.Big {
	var l []api.Big
	for b := range slices.Chunk(sample.Drawn(1, 17*many), 17) {
		l = append(l, api.Big(b))
	}
	return l
}

func numbers() []api.Big { return append(edges(), several(40)...) }

// tags are edges of 16 bytes, and some without a rule.
func tags() []api.Tag {
	l := []api.Tag{{}, {1}, {4}, {5}, {0xfb}, {15: 0x80}, {15: 0xff}, {7: 0xff, 8: 1}}
	ones := filled(0xff, 0xff, 0xff)
	l = append(l, api.Tag(ones[:16]))
	ones[0] = 0
	l = append(l, api.Tag(ones[:16]))
	for _, a := range several(20) {
		l = append(l, api.Tag(a[:16]))
	}
	return l
}

// P3.1: each bit of a byte is kept or cleared by where it stands, whatever the others are.
func TestTrim(t *testing.T) {
	ones := filled(0xff, 0xff, 0xff)
	if got, want := clamp.Trim(api.Tag(ones[:16])), (api.Tag{0xff, 0xff, 0xff, 0x0f, 0xfc, 0xff, 0xff, 0x0f, 0xfc, 0xff, 0xff, 0x0f, 0xfc, 0xff, 0xff, 0x0f}); got != want {
		t.Errorf("of ones: %x", got)
	}
	if got := clamp.Trim(api.Tag{}); got != (api.Tag{}) {
		t.Errorf("of noughts: %x", got)
	}
	for bit := range 128 {
		at, place := bit/8, bit%8
		cleared := at%4 == 3 && place >= 4 || at%4 == 0 && at > 0 && place < 2
		for _, r := range tags() {
			got := clamp.Trim(r)
			want := r[at] >> place & 1
			if cleared {
				want = 0
			}
			if got[at]>>place&1 != want {
				t.Errorf("bit %d of byte %d of %x: %x", place, at, r, got)
			}
		}
	}
}

// P3.1: pieces of each length, and those that are too long.
func TestBlock(t *testing.T) {
	text := []byte("The quick brown fox jumps over the lazy dog")
	for many := range 17 {
		piece := text[:many]
		kept := bytes.Clone(text)
		got, e := clamp.Block(piece)
		want := append(bytes.Clone(piece), 1)
		want = append(want, make([]byte, 16-many)...)
		if e != api.OK || got != api.Big(want) {
			t.Errorf("%d bytes: %x, %d, not %x", many, got, e, want)
		}
		if !bytes.Equal(text, kept) {
			t.Errorf("%d bytes: what was handed in, or what is behind it, is changed: %q", many, text)
		}
	}
	for _, many := range []int{17, 18, 32, 43} {
		if got, e := clamp.Block(text[:many]); e != api.ErrLong || got != (api.Big{}) {
			t.Errorf("%d bytes: %x, %d", many, got, e)
		}
	}
	if got, e := clamp.Block(nil); e != api.OK || got != (api.Big{1}) {
		t.Errorf("nil: %x, %d", got, e)
	}
	if got, e := clamp.Block(make([]byte, 16)); e != api.OK || got != (api.Big{16: 1}) {
		t.Errorf("16 noughts: %x, %d", got, e)
	}
}

// P3.1: noughts at a piece's end count.
func TestBlocksOfNoughtsDiffer(t *testing.T) {
	seen := map[api.Big]int{}
	for many := range 17 {
		a, _ := clamp.Block(make([]byte, many))
		if other, ok := seen[a]; ok {
			t.Errorf("%d and %d noughts are the same: %x", other, many, a)
		}
		seen[a] = many
	}
}

// P3.2: the chapter's examples, and edges that are told by their bytes.
func TestReckonedByHand(t *testing.T) {
	top, lessOne, q := filled(0xff, 0xff, 0xff), filled(0xfa, 0xff, 3), filled(0xfb, 0xff, 3)
	for i, x := range []struct{ got, want api.Big }{
		{clamp.Canon(api.Big{}), api.Big{}},
		{clamp.Canon(api.Big{1}), api.Big{1}},
		{clamp.Canon(lessOne), lessOne},
		{clamp.Canon(q), api.Big{}},
		{clamp.Canon(filled(0xfc, 0xff, 3)), api.Big{1}},
		{clamp.Canon(filled(0xf6, 0xff, 7)), api.Big{}},
		{clamp.Canon(filled(0xf5, 0xff, 7)), lessOne},
		{clamp.Canon(filled(0xff, 0xff, 3)), api.Big{4}},
		{clamp.Canon(filled(0, 0, 4)), api.Big{5}},
		{clamp.Canon(top), api.Big{0x3f, 1}},
		{clamp.Add(lessOne, api.Big{1}), api.Big{}},
		{clamp.Add(lessOne, lessOne), filled(0xf9, 0xff, 3)},
		{clamp.Add(q, api.Big{7}), api.Big{7}},
		{clamp.Add(q, q), api.Big{}},
		{clamp.Add(top, top), api.Big{0x7e, 2}},
		{clamp.Mul(api.Big{2}, api.Big{16: 2}), api.Big{5}},
		{clamp.Mul(api.Big{3}, api.Big{5}), api.Big{15}},
		{clamp.Mul(lessOne, lessOne), api.Big{1}},
		{clamp.Mul(q, top), api.Big{}},
		{clamp.Mul(top, api.Big{1}), api.Big{0x3f, 1}},
		{clamp.Mul(top, top), api.Big{0x81, 0x8d, 1}},
	} {
		if x.got != x.want {
			t.Errorf("row %d: %x, not %x", i, x.got, x.want)
		}
	}
}

// P3.2: against whole numbers without end.
func TestReckonsAsWholeNumbersDo(t *testing.T) {
	l := numbers()
	for _, a := range l {
		x := value(a[:])
		if got, want := clamp.Canon(a), leastOf(x); got != want {
			t.Errorf("Canon(%x): %x, not %x", a, got, want)
		}
		for _, b := range l {
			y := value(b[:])
			if got, want := clamp.Add(a, b), leastOf(new(big.Int).Add(x, y)); got != want {
				t.Errorf("Add(%x, %x): %x, not %x", a, b, got, want)
			}
			if got, want := clamp.Mul(a, b), leastOf(new(big.Int).Mul(x, y)); got != want {
				t.Errorf("Mul(%x, %x): %x, not %x", a, b, got, want)
			}
		}
	}
}

// P3.2: each of the 136 bits counts, those above the 130th too.
func TestEachBitCounts(t *testing.T) {
	for i := range 136 {
		var a api.Big
		a[i/8] = 1 << (i % 8)
		want := leastOf(new(big.Int).Lsh(big.NewInt(1), uint(i)))
		for _, got := range []api.Big{
			clamp.Canon(a),
			clamp.Add(a, api.Big{}),
			clamp.Add(api.Big{}, a),
			clamp.Mul(a, api.Big{1}),
			clamp.Mul(api.Big{1}, a),
		} {
			if got != want {
				t.Errorf("bit %d: %x, not %x", i, got, want)
			}
		}
		for j := range 136 {
			var b api.Big
			b[j/8] = 1 << (j % 8)
			want := leastOf(new(big.Int).Lsh(big.NewInt(1), uint(i+j)))
			if got := clamp.Mul(a, b); got != want {
				t.Errorf("bits %d, %d: %x, not %x", i, j, got, want)
			}
		}
	}
}

// P3.2: around each multiple of q that 17 bytes hold, and each of 2^130.
func TestCanonAroundMultiples(t *testing.T) {
	for times := range int64(65) {
		for off := int64(-7); off <= 7; off++ {
			n := new(big.Int).Mul(q, big.NewInt(times))
			n.Add(n, big.NewInt(off))
			if n.Sign() < 0 {
				continue
			}
			if got, want := clamp.Canon(bytesOf(n)), leastOf(n); got != want {
				t.Errorf("%d * q + %d: %x, not %x", times, off, got, want)
			}
		}
	}
	for last := range 256 {
		for _, a := range []api.Big{filled(0, 0, byte(last)), filled(0xff, 0xff, byte(last))} {
			if got, want := clamp.Canon(a), leastOf(value(a[:])); got != want {
				t.Errorf("%x: %x, not %x", a, got, want)
			}
		}
	}
}

// P3.3: the chapter's example, and sums that reach 2^128 or come near.
func TestLowByHand(t *testing.T) {
	full := filled(0xff, 0xff, 0xff)
	ones := api.Tag(full[:16])
	for i, x := range []struct{ got, want api.Tag }{
		{clamp.Low(api.Big{1}, ones), api.Tag{}},
		{clamp.Low(api.Big{2}, ones), api.Tag{1}},
		{clamp.Low(api.Big{}, ones), ones},
		{clamp.Low(api.Big{}, api.Tag{}), api.Tag{}},
		{clamp.Low(near(1, 0), ones), ones},
		{clamp.Low(near(1, 1), ones), api.Tag{}},
		{clamp.Low(near(2, 0), ones), ones},
		{clamp.Low(full, api.Tag{}), api.Tag{0x3f, 1}},
		{clamp.Low(api.Big{16: 1}, api.Tag{9}), api.Tag{9}},
		{clamp.Low(api.Big{16: 3}, api.Tag{9}), api.Tag{9}},
		{clamp.Low(api.Big{16: 4}, api.Tag{9}), api.Tag{14}},
		{clamp.Low(filled(0xff, 0xff, 0), api.Tag{1}), api.Tag{}},
		{clamp.Low(filled(0xff, 0xff, 0), api.Tag{}), ones},
		{clamp.Low(near(1, -1), api.Tag{6}), api.Tag{}},
		{clamp.Low(near(1, -1), api.Tag{5}), ones},
	} {
		if x.got != x.want {
			t.Errorf("row %d: %x, not %x", i, x.got, x.want)
		}
	}
}

// P3.3: against whole numbers without end.
func TestLowAsWholeNumbersDo(t *testing.T) {
	for _, a := range numbers() {
		for _, s := range tags() {
			n := new(big.Int).Mod(value(a[:]), q)
			n.Add(n, value(s[:]))
			n.Mod(n, new(big.Int).Lsh(big.NewInt(1), 128))
			whole := bytesOf(n)
			if got, want := clamp.Low(a, s), api.Tag(whole[:16]); got != want {
				t.Errorf("Low(%x, %x): %x, not %x", a, s, got, want)
			}
		}
	}
}

// P3.4: what two numbers' sums and products keep to.
func TestLawsOfTwo(t *testing.T) {
	l := numbers()
	for _, a := range l {
		for _, b := range l {
			if clamp.Add(a, b) != clamp.Add(b, a) {
				t.Errorf("a sum does not change sides: %x %x", a, b)
			}
			if clamp.Mul(a, b) != clamp.Mul(b, a) {
				t.Errorf("a product does not change sides: %x %x", a, b)
			}
			for _, n := range []api.Big{clamp.Add(a, b), clamp.Mul(a, b)} {
				if n != clamp.Canon(n) {
					t.Errorf("not Canon of itself: %x, of %x %x", n, a, b)
				}
			}
		}
		if clamp.Canon(clamp.Canon(a)) != clamp.Canon(a) {
			t.Errorf("not Canon of itself: Canon(%x)", a)
		}
	}
}

// P3.4: what three numbers' sums and products keep to.
func TestLawsOfThree(t *testing.T) {
	l := append(edges(), several(4)...)
	for _, a := range l {
		for _, b := range l {
			for _, c := range l {
				if clamp.Add(a, clamp.Add(b, c)) != clamp.Add(clamp.Add(a, b), c) {
					t.Errorf("a sum hangs on how it is put together: %x %x %x", a, b, c)
				}
				if clamp.Mul(a, clamp.Mul(b, c)) != clamp.Mul(clamp.Mul(a, b), c) {
					t.Errorf("a product hangs on how it is put together: %x %x %x", a, b, c)
				}
				if clamp.Mul(a, clamp.Add(b, c)) != clamp.Add(clamp.Mul(a, b), clamp.Mul(a, c)) {
					t.Errorf("a product of a sum is not the sum of the products: %x %x %x", a, b, c)
				}
			}
		}
	}
}

func BenchmarkMul(b *testing.B) {
	l := several(2)
	for b.Loop() {
		l[0] = clamp.Mul(l[0], l[1])
	}
}

func BenchmarkAdd(b *testing.B) {
	l := several(2)
	for b.Loop() {
		l[0] = clamp.Add(l[0], l[1])
	}
}
