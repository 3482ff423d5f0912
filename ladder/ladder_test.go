package ladder_test

import (
	"crypto/ecdh"
	"math/big"
	"slices"
	"testing"

	"sheave/api"
	"sheave/ladder"
	"sheave/sample"
)

// p is 2^255 - 19.
var p = new(big.Int).Sub(new(big.Int).Lsh(big.NewInt(1), 255), big.NewInt(19))

// key reads 64 hexadecimal digits.
func key(s string) api.Key { return api.Key(sample.Hex(s)) }

// value is the number of 32 bytes, the lowest first.
func value(a api.Key) *big.Int {
	slices.Reverse(a[:])
	return new(big.Int).SetBytes(a[:])
}

// bytesOf are a number's 32 bytes, the lowest first.
func bytesOf(n *big.Int) api.Key {
	var a api.Key
	n.FillBytes(a[:])
	slices.Reverse(a[:])
	return a
}

// nearP are the bytes of p + off.
func nearP(off int64) api.Key { return bytesOf(new(big.Int).Add(p, big.NewInt(off))) }

// topSet is a with its highest bit set.
func topSet(a api.Key) api.Key {
	a[31] |= 0x80
	return a
}

// several are bytes without a rule; the same each time.
func several(many int) []api.Key {
	var l []api.Key
	for b := range slices.Chunk(sample.Drawn(2, 32*many), 32) {
		l = append(l, api.Key(b))
	}
	return l
}

// bothTops are the points of a list, and the same with their highest bit set.
func bothTops(l []api.Key) []api.Key {
	for _, u := range slices.Clone(l) {
		l = append(l, topSet(u))
	}
	return l
}

// weakPoints are those of which every trimmed secret makes noughts: their order on the curve, or on its twist, goes into 8.
func weakPoints() []api.Key {
	return bothTops([]api.Key{
		{}, {1}, nearP(-1), nearP(0), nearP(1),
		key("e0eb7a7c3b41b8ae1656e3faf19fc46ada098deb9c32b1fd866205165f49b800"),
		key("5f9c95bca3508c24b1d0b1559c83ef5b04445cc4581c8e86d8224eddd09f1157"),
	})
}

// goodPoints are at other edges, or anywhere.
func goodPoints() []api.Key {
	l := []api.Key{{2}, {9}, {18}, nearP(-2), nearP(2), nearP(9), nearP(17), nearP(18)}
	return bothTops(append(l, several(3)...))
}

// secrets are such that Trim changes, at each of its bits, and such that it leaves.
func secrets() []api.Key {
	full := topSet(nearP(18))
	l := []api.Key{{}, {1}, {2}, {4}, {7}, {8}, {31: 0x80}, {31: 0x40}, {8, 31: 0x40}, full, ladder.Trim(full)}
	return append(l, several(3)...)
}

// field reckons modulo p with whole numbers without end.
type field struct{}

func (field) add(a, b *big.Int) *big.Int {
	n := new(big.Int).Add(a, b)
	return n.Mod(n, p)
}

func (field) sub(a, b *big.Int) *big.Int {
	n := new(big.Int).Sub(a, b)
	return n.Mod(n, p)
}

func (field) mul(a, b *big.Int) *big.Int {
	n := new(big.Int).Mul(a, b)
	return n.Mod(n, p)
}

// rungsByWord is the ladder as the chapter writes it out, for a number n below 2^255.
func rungsByWord(n, x *big.Int) *big.Int {
	var f field
	x2, z2, x3, z3 := big.NewInt(1), big.NewInt(0), x, big.NewInt(1)
	for t := 254; t >= 0; t-- {
		if n.Bit(t) == 1 {
			x2, x3, z2, z3 = x3, x2, z3, z2
		}
		a, b, c, d := f.add(x2, z2), f.sub(x2, z2), f.add(x3, z3), f.sub(x3, z3)
		aa, bb, da, cb := f.mul(a, a), f.mul(b, b), f.mul(d, a), f.mul(c, b)
		e, plus, minus := f.sub(aa, bb), f.add(da, cb), f.sub(da, cb)
		x3, z3 = f.mul(plus, plus), f.mul(x, f.mul(minus, minus))
		x2, z2 = f.mul(aa, bb), f.mul(e, f.add(aa, f.mul(big.NewInt(121665), e)))
		if n.Bit(t) == 1 {
			x2, x3, z2, z3 = x3, x2, z3, z2
		}
	}
	inverse := new(big.Int).ModInverse(z2, p)
	if inverse == nil {
		return new(big.Int)
	}
	return f.mul(x2, inverse)
}

// timesByWord is Times by whole numbers without end.
func timesByWord(k, u api.Key) api.Key {
	k[0] &= 0xf8
	k[31] = k[31]&0x7f | 0x40
	u[31] &= 0x7f
	return bytesOf(rungsByWord(value(k), new(big.Int).Mod(value(u), p)))
}

// standard is X25519 of Go's own library, and whether it takes the point.
func standard(t *testing.T, k, u api.Key) (api.Key, bool) {
	secret, err := ecdh.X25519().NewPrivateKey(k[:])
	if err != nil {
		t.Fatal(err)
	}
	point, err := ecdh.X25519().NewPublicKey(u[:])
	if err != nil {
		t.Fatal(err)
	}
	shared, err := secret.ECDH(point)
	if err != nil {
		return api.Key{}, false
	}
	return api.Key(shared), true
}

// P2.1: the bits that are changed, told by their bytes.
func TestTrimByHand(t *testing.T) {
	full := topSet(nearP(18))
	fullTrimmed := full
	fullTrimmed[0], fullTrimmed[31] = 0xf8, 0x7f
	for i, x := range []struct{ k, want api.Key }{
		{api.Key{}, api.Key{31: 0x40}},
		{full, fullTrimmed},
		{api.Key{0x07, 31: 0x80}, api.Key{31: 0x40}},
		{api.Key{0x08, 31: 0xbf}, api.Key{0x08, 31: 0x7f}},
		{api.Key{1: 0x07, 30: 0x80, 31: 0x40}, api.Key{1: 0x07, 30: 0x80, 31: 0x40}},
	} {
		if got := ladder.Trim(x.k); got != x.want {
			t.Errorf("row %d: %x, not %x", i, got, x.want)
		}
	}
}

// P2.1: each of the 256 bits of a secret by itself, beside noughts and beside ones.
func TestTrimBitByBit(t *testing.T) {
	for bit := range 256 {
		for _, k := range []api.Key{{}, topSet(nearP(18))} {
			k[bit/8] ^= 1 << (bit % 8)
			got := ladder.Trim(k)
			for i := range 256 {
				want := k[i/8] >> (i % 8) & 1
				switch i {
				case 0, 1, 2, 255:
					want = 0
				case 254:
					want = 1
				}
				if got[i/8]>>(i%8)&1 != want {
					t.Errorf("Trim(%x): the bit %d is not %d", k, i, want)
				}
			}
			if ladder.Trim(got) != got {
				t.Errorf("Trim(%x) is trimmed again", k)
			}
		}
	}
}

// P2.2: the chapter's example, and the others of RFC 7748, 5.2.
func TestTimesByExample(t *testing.T) {
	for _, x := range [][3]string{
		{
			"a546e36bf0527c9d3b16154b82465edd62144c0ac1fc5a18506a2244ba449ac4",
			"e6db6867583030db3594c1a424b15f7c726624ec26b3353b10a903a6d0ab1c4c",
			"c3da55379de9c6908e94ea4df28d084f32eccf03491c71f754b4075577a28552",
		},
		{
			"4b66e9d4d1b4673c5ad22691957d6af5c11b6421e0ea01d42ca4169e7918ba0d",
			"e5210f12786811d3f4b7959d0538ae2c31dbe7106fc03c3efc4cd549c715a493",
			"95cbde9476e8907d7aade45cb4b873f88b595a68799fa152e6f8f7647aac7957",
		},
	} {
		if got := ladder.Times(key(x[0]), key(x[1])); got != key(x[2]) {
			t.Errorf("Times(%s, %s): %x", x[0], x[1], got)
		}
	}
}

// P2.2: RFC 7748, 5.2: each answer is the next secret, each secret the next point.
func TestTimesOverAndOver(t *testing.T) {
	t.Parallel()
	k, u := api.Key{9}, api.Key{9}
	for i := range 1000 {
		k, u = ladder.Times(k, u), k
		if i == 0 && k != key("422c8e7a6227d7bca1350b3e2bb7279f7897b87bb6854b783c60e80311ae3079") {
			t.Fatalf("once: %x", k)
		}
	}
	if k != key("684cf59ba83309552800ef566f2f4d3c1c3887c49360e3875f2eb94d99532c51") {
		t.Errorf("a thousand times: %x", k)
	}
}

// P2.2: the chapter's words, with whole numbers without end, at the edges and elsewhere.
func TestTimesByWord(t *testing.T) {
	t.Parallel()
	for _, k := range secrets() {
		for _, u := range append(weakPoints(), goodPoints()...) {
			if got, want := ladder.Times(k, u), timesByWord(k, u); got != want {
				t.Errorf("Times(%x, %x): %x, not %x", k, u, got, want)
			}
		}
	}
}

// P2.2: each bit of a secret that Trim leaves counts.
func TestTimesSeesEachBit(t *testing.T) {
	t.Parallel()
	seen := map[api.Key]int{}
	for bit := 3; bit < 254; bit++ {
		var k api.Key
		k[bit/8] = 1 << (bit % 8)
		got := ladder.Times(k, api.Key{9})
		if other, ok := seen[got]; ok {
			t.Errorf("the bits %d and %d: both %x", other, bit, got)
		}
		seen[got] = bit
	}
}

// P2.3: the public keys of RFC 7748, 6.1, and what the two share.
func TestPublicByExample(t *testing.T) {
	alice := key("77076d0a7318a57d3c16c17251b26645df4c2f87ebc0992ab177fba51db92c2a")
	bob := key("5dab087e624a8a4b79e17f8b83800ee66f3bb1292618b6fd1c2f8b27ff88e0eb")
	if got := ladder.Public(alice); got != key("8520f0098930a754748b7ddcb43ef75a0dbf3a0d26381af4eba4a98eaa9b4e6a") {
		t.Errorf("Alice: %x", got)
	}
	if got := ladder.Public(bob); got != key("de9edb7d7b7dc1b4d35b61c2ece435373f8343c85b78674dadfc7e146f882b4f") {
		t.Errorf("Bob: %x", got)
	}
	want := key("4a5d9d5ba4ce2de1728e3bf480350f25e07e21c947d19e3376f09b3c1e161742")
	if got, e := ladder.Shared(alice, ladder.Public(bob)); got != want || e != api.OK {
		t.Errorf("Alice and Bob: %x %d", got, e)
	}
	if got, e := ladder.Shared(bob, ladder.Public(alice)); got != want || e != api.OK {
		t.Errorf("Bob and Alice: %x %d", got, e)
	}
}

// P2.3: Public goes from the point 9.
func TestPublic(t *testing.T) {
	for _, k := range secrets() {
		want, _ := standard(t, k, api.Key{9})
		if got := ladder.Public(k); got != want || got != ladder.Times(k, api.Key{9}) {
			t.Errorf("Public(%x): %x, not %x", k, got, want)
		}
	}
}

// P2.3: points of which nothing but noughts comes are refused, with nothing beside the error.
func TestSharedRefuses(t *testing.T) {
	t.Parallel()
	for _, k := range secrets() {
		for _, u := range weakPoints() {
			if got, e := ladder.Shared(k, u); got != (api.Key{}) || e != api.ErrZero {
				t.Errorf("Shared(%x, %x): %x %d", k, u, got, e)
			}
		}
	}
}

// P2.3: of every other point Shared is Times, which is what the standard's function gives.
func TestSharedIsTimes(t *testing.T) {
	t.Parallel()
	for _, k := range secrets() {
		for _, u := range append(weakPoints(), goodPoints()...) {
			want, ok := standard(t, k, u)
			got, e := ladder.Shared(k, u)
			if got != want || ok != (e == api.OK) || got != ladder.Times(k, u) {
				t.Errorf("Shared(%x, %x): %x %d, not %x %v", k, u, got, e, want, ok)
			}
		}
	}
}

// backFrom is a point of which the secret k makes u: u times the inverse of k, modulo the order of 9.
// There is none for many a u; then it is a point of which k makes something else.
func backFrom(k, u api.Key) api.Key {
	order, _ := new(big.Int).SetString("1000000000000000000000000000000014def9dea2f79cd65812631a5cf5d3ed", 16)
	inverse := new(big.Int).ModInverse(value(ladder.Trim(k)), order)
	return bytesOf(rungsByWord(inverse, value(u)))
}

// P2.3: one byte that is not nought is enough, wherever it stands.
func TestSharedTakesOneByte(t *testing.T) {
	t.Parallel()
	k := several(1)[0]
	for at := range 32 {
		found := false
		for b := 1; b < 128 && !found; b++ {
			want := api.Key{}
			want[at] = byte(b)
			u := backFrom(k, want)
			if timesByWord(k, u) != want {
				continue
			}
			found = true
			if got, e := ladder.Shared(k, u); got != want || e != api.OK {
				t.Errorf("Shared(%x, %x): %x %d", k, u, got, e)
			}
		}
		if !found {
			t.Errorf("no secret with the byte %d alone", at)
		}
	}
}

// P2.4: each makes the same of the other's public key.
func TestBothShareTheSame(t *testing.T) {
	t.Parallel()
	l := secrets()
	for _, a := range l {
		for _, b := range l {
			x, e := ladder.Shared(a, ladder.Public(b))
			y, f := ladder.Shared(b, ladder.Public(a))
			if x != y || e != api.OK || f != api.OK {
				t.Errorf("%x and %x: %x %d, %x %d", a, b, x, e, y, f)
			}
		}
	}
}

// P2.4: what Trim changes, and a point's highest bit, make no difference.
func TestTimesDoesNotSee(t *testing.T) {
	t.Parallel()
	points := append(weakPoints(), goodPoints()...)
	for i, k := range secrets() {
		u := points[i*5%len(points)]
		want := ladder.Times(k, u)
		if got := ladder.Times(ladder.Trim(k), u); got != want {
			t.Errorf("Trim(%x) and %x: %x, not %x", k, u, got, want)
		}
		for _, bit := range []int{0, 1, 2, 254, 255} {
			other := k
			other[bit/8] ^= 1 << (bit % 8)
			if got := ladder.Times(other, u); got != want {
				t.Errorf("Times(%x, %x): %x, not %x", other, u, got, want)
			}
		}
		other := u
		other[31] ^= 0x80
		if got := ladder.Times(k, other); got != want {
			t.Errorf("Times(%x, %x): %x, not %x", k, other, got, want)
		}
	}
}

func BenchmarkTimes(b *testing.B) {
	l := several(2)
	for b.Loop() {
		l[0], l[1] = ladder.Times(l[0], l[1]), l[0]
	}
}
