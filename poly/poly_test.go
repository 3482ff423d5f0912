package poly_test

import (
	"bytes"
	"math/big"
	"slices"
	"testing"

	"sheave/api"
	"sheave/poly"
	"sheave/sample"
)

const (
	noughts    = "00000000000000000000000000000000"
	ones       = "ffffffffffffffffffffffffffffffff"
	one        = "01000000000000000000000000000000"
	two        = "02000000000000000000000000000000"
	clause     = "36e5f6b5c5e06070f0efca96227a863e"
	group      = "Cryptographic Forum Research Group"
	submission = "Any submission to the IETF intended by the Contributor for publication as all or part of an IETF Internet-Draft or RFC and any statement made within the context of an IETF activity is considered an \"IETF Contribution\". Such statements include oral statements in IETF sessions, as well as written and electronic communications made at any time or place, which are addressed to"
	brillig    = "'Twas brillig, and the slithy toves\nDid gyre and gimble in the wabe:\nAll mimsy were the borogoves,\nAnd the mome raths outgrabe."
)

// lengths are those at which a piece begins or ends, or nearly, and some beyond.
var lengths = []int{0, 1, 2, 15, 16, 17, 31, 32, 33, 47, 48, 49, 64, 256, 1000}

func keyOf(r, s string) api.Key { return api.Key(sample.Hex(r + s)) }

func secondHalf(key api.Key) api.Tag { return api.Tag(key[16:]) }

// keys are of noughts, of ones, with halves at their edges, and without a rule.
func keys() []api.Key {
	var l []api.Key
	halves := []string{noughts, ones, one, two, "fb" + ones[2:], noughts[:30] + "80", clause}
	for _, r := range halves {
		for _, s := range halves {
			l = append(l, keyOf(r, s))
		}
	}
	for seed := range uint64(20) {
		l = append(l, api.Key(sample.Drawn(seed, 32)))
	}
	return l
}

// texts are of noughts, of ones, and without a rule, of all lengths that matter.
func texts() [][]byte {
	var l [][]byte
	for _, many := range lengths {
		l = append(l, make([]byte, many), bytes.Repeat([]byte{0xff}, many), sample.Drawn(uint64(many), many))
	}
	return append(l, []byte(group), []byte(submission), []byte(brillig))
}

// trimmed are the first 16 bytes of a key without the bits that RFC 8439 (2.5) clears, told there by byte numbers.
func trimmed(key api.Key) []byte {
	r := bytes.Clone(key[:16])
	for _, i := range []int{3, 7, 11, 15} {
		r[i] &= 15
	}
	for _, i := range []int{4, 8, 12} {
		r[i] &= 252
	}
	return r
}

// value is the number of bytes, the lowest first.
func value(b []byte) *big.Int {
	b = bytes.Clone(b)
	slices.Reverse(b)
	return new(big.Int).SetBytes(b)
}

func power(of, by int64) *big.Int { return new(big.Int).Exp(big.NewInt(of), big.NewInt(by), nil) }

// slowSum reckons with whole numbers without end: each piece goes by a power of r of its own, the last one by r itself.
func slowSum(key api.Key, b []byte) api.Tag {
	r, q, sum := value(trimmed(key)), new(big.Int).Sub(power(2, 130), big.NewInt(5)), new(big.Int)
	pieces := slices.Collect(slices.Chunk(b, 16))
	for i, piece := range pieces {
		n := new(big.Int).Add(value(piece), power(256, int64(len(piece))))
		sum.Add(sum, n.Mul(n, new(big.Int).Exp(r, big.NewInt(int64(len(pieces)-i)), q)))
	}
	sum.Mod(sum, q)
	sum.Add(sum, value(key[16:]))
	sum.Mod(sum, power(2, 128))
	var t api.Tag
	sum.FillBytes(t[:])
	slices.Reverse(t[:])
	return t
}

// P5.1: the chapter's example, which is that of RFC 8439 (2.5.2), those of its A.3, and a key of ones.
func TestSumOfKnown(t *testing.T) {
	ten := "e33594d7505e43b9000000000000000033" + "94d7505e4379cd0100000000000000" + noughts
	for i, x := range []struct{ r, s, text, want string }{
		{"85d6be7857556d337f4452fe42d506a8", "0103808afb0db2fd4abff6af4149f51b", group, "a8061dc1305136c6c22b8baf0c0127a9"},
		{noughts, noughts, string(make([]byte, 64)), noughts},
		{noughts, clause, submission, clause},
		{clause, noughts, submission, "f3477e7cd95417af89a6b8794c310cf0"},
		{"1c9240a5eb55d38af333888604f6b5f0", "473917c1402b80099dca5cbc207075c0", brillig, "4541669a7eaaee61e708dc7cbcc5eb62"},
		{two, noughts, string(sample.Hex(ones)), "03" + noughts[2:]},
		{two, ones, string(sample.Hex(two)), "03" + noughts[2:]},
		{one, noughts, string(sample.Hex(ones + "f0" + ones[2:] + "11" + noughts[2:])), "05" + noughts[2:]},
		{one, noughts, string(sample.Hex(ones + "fbfefefefefefefefefefefefefefefe" + "01010101010101010101010101010101")), noughts},
		{two, noughts, string(sample.Hex("fd" + ones[2:])), "fa" + ones[2:]},
		{"01000000000000000400000000000000", noughts, string(sample.Hex(ten + one)), "14000000000000005500000000000000"},
		{"01000000000000000400000000000000", noughts, string(sample.Hex(ten)), "13" + noughts[2:]},
	} {
		if got := poly.Sum(keyOf(x.r, x.s), []byte(x.text)); got != api.Tag(sample.Hex(x.want)) {
			t.Errorf("row %d: %x, not %s", i, got, x.want)
		}
	}
}

// P5.1: of a key of noughts the tag is noughts, whatever the text.
func TestSumByNoughts(t *testing.T) {
	for _, text := range texts() {
		if got := poly.Sum(api.Key{}, text); got != (api.Tag{}) {
			t.Errorf("of %x: %x", text, got)
		}
	}
}

// P5.1: every key with every text, against the slow reckoning.
func TestSumPieceByPiece(t *testing.T) {
	for _, key := range keys() {
		for _, text := range texts() {
			if got, want := poly.Sum(key, text), slowSum(key, text); got != want {
				t.Errorf("of %x, %x: %x, not %x", key, text, got, want)
			}
		}
	}
}

// P5.1: pieces of ones, of all lengths up to some pieces, by keys that bring the sums to their edges.
func TestSumOfOnes(t *testing.T) {
	full := bytes.Repeat([]byte{0xff}, 100)
	for _, key := range keys() {
		for many := range full {
			if got, want := poly.Sum(key, full[:many]), slowSum(key, full[:many]); got != want {
				t.Errorf("of %x, %d ones: %x, not %x", key, many, got, want)
			}
		}
	}
}

// P5.1: what the second half brings to 2^128 or beyond falls away. By r = 1 a piece of 16 bytes counts as it is.
func TestSumRunsOver(t *testing.T) {
	half := noughts[:30] + "80"
	for i, x := range []struct{ s, piece, want string }{
		{ones, one, noughts},
		{ones, two, one},
		{ones, ones, "fe" + ones[2:]},
		{one, ones, noughts},
		{two, ones, one},
		{half, half, noughts},
		{"fe" + ones[2:], one, ones},
		{noughts, ones, ones},
		{ones[:16] + noughts[16:], one, noughts[:16] + one[:16]},
	} {
		if got := poly.Sum(keyOf(one, x.s), sample.Hex(x.piece)); got != api.Tag(sample.Hex(x.want)) {
			t.Errorf("row %d: %x, not %s", i, got, x.want)
		}
	}
}

// P5.1: noughts at a text's end count, and so does each of its bits.
func TestSumHangsOnTheText(t *testing.T) {
	key := api.Key(sample.Drawn(1, 32))
	seen := map[api.Tag]string{}
	look := func(text []byte) {
		got := poly.Sum(key, text)
		if other, ok := seen[got]; ok {
			t.Errorf("of %x and %x: the same", other, text)
		}
		seen[got] = string(text)
	}
	for many := range 50 {
		look(make([]byte, many))
	}
	for bit := range 49 * 8 {
		text := make([]byte, 49)
		text[bit/8] = 1 << (bit % 8)
		look(text)
	}
}

// P5.1: what was handed in stays as it was, with the room behind it, and what is behind it does not count.
func TestSumLeavesItsText(t *testing.T) {
	key := api.Key(sample.Drawn(2, 32))
	for _, many := range lengths {
		whole := sample.Drawn(3, many+40)
		kept, keptKey := bytes.Clone(whole), key
		got := poly.Sum(key, whole[:many])
		if !bytes.Equal(whole, kept) {
			t.Errorf("%d bytes: what was handed in, or what is behind it, is changed", many)
		}
		if key != keptKey {
			t.Errorf("%d bytes: the key is changed", many)
		}
		if again := poly.Sum(key, slices.Clip(bytes.Clone(kept[:many]))); again != got {
			t.Errorf("%d bytes: %x, and without room behind them %x", many, got, again)
		}
		clear(whole)
		if again := poly.Sum(key, kept[:many]); again != got {
			t.Errorf("%d bytes: %x, and once more %x", many, got, again)
		}
	}
}

// P5.2: a tag is the same as itself, and no other is that differs in one bit, wherever it stands.
func TestSameTellsOneBit(t *testing.T) {
	for _, key := range keys() {
		a := secondHalf(key)
		if b := a; !poly.Same(a, b) {
			t.Errorf("%x is not the same as itself", a)
		}
		for bit := range 128 {
			b := a
			b[bit/8] ^= 1 << (bit % 8)
			if poly.Same(a, b) || poly.Same(b, a) {
				t.Errorf("%x and %x are told to be the same", a, b)
			}
		}
	}
}

// P5.2: tags that differ in a byte, in two that are alike, in all of them, and whose differences would cancel out.
func TestSameTellsSeveralBytes(t *testing.T) {
	a := api.Tag(sample.Hex(clause))
	for at := range a {
		for by := 1; by < 256; by++ {
			b := a
			b[at] ^= byte(by)
			if poly.Same(a, b) {
				t.Errorf("byte %d by %02x: told to be the same", at, by)
			}
			b[(at+1)%16] ^= byte(by)
			if poly.Same(a, b) {
				t.Errorf("byte %d and the next by %02x: told to be the same", at, by)
			}
			b = a
			b[at] += byte(by)
			b[(at+5)%16] -= byte(by)
			if poly.Same(a, b) {
				t.Errorf("byte %d up and another down by %02x: told to be the same", at, by)
			}
		}
	}
	for _, x := range []string{noughts, ones, one, two} {
		for _, y := range []string{noughts, ones, one, two} {
			if got := poly.Same(api.Tag(sample.Hex(x)), api.Tag(sample.Hex(y))); got != (x == y) {
				t.Errorf("%s and %s: %t", x, y, got)
			}
		}
	}
}

// P5.2: it tells a text's tag from those of others.
func TestSameOfSums(t *testing.T) {
	key := api.Key(sample.Drawn(4, 32))
	for i, text := range texts() {
		tag := poly.Sum(key, text)
		if !poly.Same(tag, poly.Sum(key, bytes.Clone(text))) {
			t.Errorf("text %d: not the same twice", i)
		}
		if poly.Same(tag, poly.Sum(key, append(bytes.Clone(text), 0))) {
			t.Errorf("text %d: the same as with a nought behind it", i)
		}
	}
}

// P5.3: of no bytes the tag is the second half of the key.
func TestSumOfNone(t *testing.T) {
	for _, key := range keys() {
		if a, b := poly.Sum(key, nil), poly.Sum(key, []byte{}); a != secondHalf(key) || b != secondHalf(key) {
			t.Errorf("of %x: %x, %x", key, a, b)
		}
	}
}

// P5.3: the bits of the first half that are trimmed away do not count, each alone and all together.
func TestSumHangsOnTheTrimmedAlone(t *testing.T) {
	for _, key := range keys() {
		r := trimmed(key)
		for _, text := range texts() {
			got := poly.Sum(key, text)
			if again := poly.Sum(api.Key(slices.Concat(r, key[16:])), text); again != got {
				t.Errorf("of %x, %x: %x, and trimmed %x", key, text, got, again)
			}
		}
		for bit := range 128 {
			other := key
			other[bit/8] ^= 1 << (bit % 8)
			if !bytes.Equal(trimmed(other), r) {
				continue
			}
			if a, b := poly.Sum(key, []byte(group)), poly.Sum(other, []byte(group)); a != b {
				t.Errorf("of %x, by bit %d: %x, not %x", key, bit, b, a)
			}
		}
	}
}

// P5.3: of the first half's 128 bits 22 do not count; each of the others does.
func TestSumHangsOnEachBitThatIsLeft(t *testing.T) {
	key, text := api.Key(sample.Drawn(5, 32)), []byte(group)
	tag, idle := poly.Sum(key, text), 0
	for bit := range 128 {
		other := key
		other[bit/8] ^= 1 << (bit % 8)
		if poly.Sum(other, text) == tag {
			idle++
		}
	}
	if idle != 22 {
		t.Errorf("%d bits do not count", idle)
	}
}

// P5.3: one key's tags by two second halves differ by what the halves do, modulo 2^128.
func TestSumMovesWithTheSecondHalf(t *testing.T) {
	for _, key := range keys() {
		for _, text := range texts() {
			bare := key
			clear(bare[16:])
			got, tag := poly.Sum(key, text), poly.Sum(bare, text)
			want := new(big.Int).Add(value(tag[:]), value(key[16:]))
			if value(got[:]).Cmp(want.Mod(want, power(2, 128))) != 0 {
				t.Errorf("of %x, %x: %x, and without the second half %x", key, text, got, tag)
			}
		}
	}
}

func BenchmarkSum(b *testing.B) {
	key, text := api.Key(sample.Drawn(6, 32)), sample.Drawn(7, api.MaxRecord)
	b.SetBytes(int64(len(text)))
	for b.Loop() {
		tag := poly.Sum(key, text)
		key[0] = tag[0]
	}
}
