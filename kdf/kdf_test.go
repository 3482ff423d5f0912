package kdf_test

import (
	"bytes"
	"crypto/hkdf"
	"hash"
	"math"
	"slices"
	"strconv"
	"strings"
	"testing"

	"sheave/api"
	"sheave/blake"
	"sheave/kdf"
	"sheave/sample"
)

// lengths are those of salts, secrets and infos at which a mac or a piece of a hash begins or ends, or nearly.
var lengths = []int{0, 1, 31, 32, 33, 63, 64, 65}

// numbers are of bytes at which a part begins or ends, or nearly, and the greatest that may be asked for.
var numbers = []int{0, 1, 31, 32, 33, 63, 64, 65, 8159, 8160}

// keys are of noughts, of ones, and without a rule.
func keys() []api.Key {
	var l []api.Key
	for _, b := range sample.Kinds(32) {
		l = append(l, api.Key(b))
	}
	return append(l, api.Key{1}, api.Key{31: 128}, api.Key(sample.Drawn(1, 32)))
}

func counted(from, many int) []byte {
	b := make([]byte, many)
	for i := range b {
		b[i] = byte(from + i)
	}
	return b
}

// whole is blake's hash as the library's hkdf takes one.
type whole struct{ bytes.Buffer }

func newWhole() hash.Hash { return new(whole) }

func (w *whole) Sum(b []byte) []byte {
	h := blake.Hash(w.Bytes())
	return append(b, h[:]...)
}
func (w *whole) Size() int      { return 32 }
func (w *whole) BlockSize() int { return 64 }

// slowExpand takes all the parts that there can be, as the chapter tells them, and cuts off what was not asked for.
func slowExpand(k api.Key, info []byte, n int) []byte {
	var all, last []byte
	for i := 1; i <= 255; i++ {
		text := append(bytes.Clone(last), info...)
		t := blake.Mac(k[:], append(text, byte(i)))
		last = t[:]
		all = append(all, last...)
	}
	return all[:n]
}

func expand(t *testing.T, k api.Key, info []byte, n int) []byte {
	t.Helper()
	got, err := kdf.Expand(k, info, n)
	if err != api.OK || len(got) != n {
		t.Errorf("by %x of %x, %d: %d bytes, error %d", k, info, n, len(got), err)
	}
	return got
}

// once tells answers that came before.
type once map[string]string

func (o once) look(t *testing.T, what string, got []byte) {
	t.Helper()
	if other, ok := o[string(got)]; ok {
		t.Errorf("%s, and %s: both %x", other, what, got)
	}
	o[string(got)] = what
}

// P8.1: the secrets, salts and infos of RFC 5869 (A.1 to A.3), with the answers of Python's cryptography and of openssl for BLAKE2s.
func TestOfKnown(t *testing.T) {
	for i, x := range []struct {
		salt, secret, info []byte
		key, want          string
	}{
		{
			counted(0, 13), bytes.Repeat([]byte{0x0b}, 22), counted(0xf0, 10),
			"57e878130679f9ea85900980b52df2643d043b82f290eb7dd62175dbb04cca4e",
			"1472c31f2ff768c71b19f8803683ee3b13c1a5fb3ea59c0c3bf0d44a4a40dcd4329d9cd85bbe35a1b3e7",
		},
		{
			counted(0x60, 80), counted(0, 80), counted(0xb0, 80),
			"67ba3b32417ecf634cce8b62ef78dd621c3d5c6f40615b7fa6759a5c54c13745",
			"9a4d17a2953c7331fecfb23ff13578c4758b4f5ebaac2dae59dd0d2c8457e2f0075434cf17d98cadf4fcfdcd6d818a3f" +
				"4f99679d3265bd9da9955b901661a974b146aa7e89fbdcc114e6de28b28b38b87c51",
		},
		{
			nil, bytes.Repeat([]byte{0x0b}, 22), nil,
			"ca62915d4a8508e2c993341d6cd4221d9152f2582c263e0335c6cfab4ebf1937",
			"064c0f0b9d9148a2e5ac797e5ef23d1b39b422f1ec37b57b45065ff2b607527143b9b9f8ba59db392663",
		},
	} {
		want := sample.Hex(x.want)
		k := kdf.Extract(x.salt, x.secret)
		if k != api.Key(sample.Hex(x.key)) {
			t.Errorf("row %d: the key %x", i, k)
		}
		if got := expand(t, k, x.info, len(want)); !bytes.Equal(got, want) {
			t.Errorf("row %d: %x", i, got)
		}
	}
}

// P8.1: salts and secrets of noughts, of ones and without a rule.
func TestExtractIsMac(t *testing.T) {
	for _, s := range lengths {
		for _, salt := range sample.Kinds(s) {
			for _, m := range lengths {
				for _, secret := range sample.Kinds(m) {
					if got, want := kdf.Extract(salt, secret), blake.Mac(salt, secret); got != want {
						t.Errorf("by %x of %x: %x, not %x", salt, secret, got, want)
					}
				}
			}
		}
	}
}

// P8.1: the same, as the library's hkdf reckons it.
func TestExtractAgainstTheLibrary(t *testing.T) {
	for _, s := range lengths {
		for _, m := range lengths {
			salt, secret := sample.Drawn(2, s), sample.Drawn(3, m)
			want, err := hkdf.Extract(newWhole, secret, salt)
			if got := kdf.Extract(salt, secret); err != nil || !bytes.Equal(got[:], want) {
				t.Errorf("by %x of %x: %x, not %x (%v)", salt, secret, got, want, err)
			}
		}
	}
}

// P8.1: salts of all lengths up to beyond two pieces, against what Python's hmac reckons: its answers hashed together.
func TestExtractOfAllSalts(t *testing.T) {
	var all []byte
	for s := range 131 {
		for _, m := range lengths {
			got := kdf.Extract(sample.Drawn(1, s), sample.Drawn(2, m))
			all = append(all, got[:]...)
		}
	}
	if got := blake.Hash(all); got != api.Key(sample.Hex("b36a8e455f31d2bd2c83b57bbdeee11026cfbf71b5e2c8d015b8295c905f3e56")) {
		t.Errorf("%x", got)
	}
}

// P8.1: no salt is the same as 32 noughts, but another than 32 of anything else.
func TestExtractWithoutSalt(t *testing.T) {
	for _, m := range lengths {
		for _, secret := range sample.Kinds(m) {
			want := blake.Mac(make([]byte, 32), secret)
			for _, salt := range [][]byte{nil, {}, sample.Drawn(4, 40)[:0], make([]byte, 32)} {
				if got := kdf.Extract(salt, secret); got != want {
					t.Errorf("of %x, by a salt of %d bytes: %x, not %x", secret, len(salt), got, want)
				}
			}
			for bit := range 256 {
				if kdf.Extract(sample.Turned(make([]byte, 32), bit), secret) == want {
					t.Errorf("of %x: bit %d of the salt does not count", secret, bit)
				}
			}
		}
	}
	if kdf.Extract(nil, nil) != kdf.Extract([]byte{}, []byte{}) {
		t.Error("no secret and an empty one differ")
	}
}

// P8.1: each bit of a salt and of a secret counts, noughts at a secret's end do, and which is which does.
func TestExtractHangsOnBoth(t *testing.T) {
	seen := once{}
	look := func(what string, salt, secret []byte) {
		k := kdf.Extract(salt, secret)
		seen.look(t, what, k[:])
	}
	// No byte of the salt is a nought, since those at its end do not count.
	salt, secret := bytes.Repeat([]byte{0xff}, 65), sample.Drawn(6, 65)
	look("as they are", salt, secret)
	look("exchanged", secret, salt)
	for bit := range 8 * 65 {
		look("a bit of the salt", sample.Turned(salt, bit), secret)
		look("a bit of the secret", salt, sample.Turned(secret, bit))
	}
	for cut := range 65 {
		look("a shorter salt", salt[:cut], secret)
		look("a shorter secret", salt, secret[:cut])
		look("noughts behind the secret", salt, append(bytes.Clone(secret), make([]byte, cut+1)...))
	}
}

// P8.1: what was handed in stays as it was, with the room behind it, which does not count.
func TestExtractLeavesWhatItIsGiven(t *testing.T) {
	for _, s := range lengths {
		for _, m := range lengths {
			salt, secret := sample.Drawn(7, s+70), sample.Drawn(8, m+70)
			keptSalt, keptSecret := bytes.Clone(salt), bytes.Clone(secret)
			got := kdf.Extract(salt[:s], secret[:m])
			if !bytes.Equal(salt, keptSalt) || !bytes.Equal(secret, keptSecret) {
				t.Errorf("%d and %d bytes: what was handed in, or what is behind it, is changed", s, m)
			}
			clear(salt)
			clear(secret)
			if again := kdf.Extract(keptSalt[:s:s], keptSecret[:m:m]); got != again {
				t.Errorf("%d and %d bytes: %x, and without room behind them %x", s, m, got, again)
			}
			if both := kdf.Extract(keptSecret[:s], keptSecret[:m]); both != blake.Mac(bytes.Clone(keptSecret[:s]), keptSecret[:m]) {
				t.Errorf("%d and %d bytes of one memory: %x", s, m, both)
			}
		}
	}
}

// P8.1: the chapter's examples, and other numbers that are too small or too great, with infos and without.
func TestExpandTellsErrors(t *testing.T) {
	for _, n := range []int{
		math.MinInt, math.MinInt + 1, -1 << 32, -1<<32 + 32, -8160, -256, -33, -32, -31, -2, -1,
		8161, 8162, 8191, 8192, 8193, 16320, 65536, 1 << 31, 1 << 32, 1<<32 + 32, math.MaxInt - 31, math.MaxInt - 1, math.MaxInt,
	} {
		for _, k := range keys() {
			for _, m := range lengths {
				if got, err := kdf.Expand(k, sample.Drawn(9, m), n); err != api.ErrArg || got != nil {
					t.Errorf("by %x, an info of %d bytes, %d: %d bytes, error %d", k, m, n, len(got), err)
				}
			}
			if got, err := kdf.Expand(k, nil, n); err != api.ErrArg || got != nil {
				t.Errorf("by %x, no info, %d: %d bytes, error %d", k, n, len(got), err)
			}
		}
	}
}

// P8.1: the chapter's example: no bytes are none, and no error.
func TestExpandToNone(t *testing.T) {
	for _, k := range keys() {
		for _, m := range lengths {
			expand(t, k, sample.Drawn(10, m), 0)
		}
		expand(t, k, nil, 0)
	}
}

// P8.1: all numbers at the edges, with keys and infos of noughts, of ones and without a rule, up to the part of number 255.
func TestExpandAsTheChapterTellsIt(t *testing.T) {
	for _, k := range keys() {
		for _, m := range lengths {
			for _, info := range sample.Kinds(m) {
				all := slowExpand(k, info, 8160)
				for _, n := range numbers {
					if got := expand(t, k, info, n); !bytes.Equal(got, all[:n]) {
						t.Errorf("by %x of %x, %d: not as it should be", k, info, n)
					}
				}
			}
		}
	}
}

// P8.1: the same, as the library's hkdf reckons it.
func TestExpandAgainstTheLibrary(t *testing.T) {
	for _, k := range keys() {
		for _, m := range lengths {
			info := sample.Drawn(11, m)
			for _, n := range numbers {
				want, err := hkdf.Expand(newWhole, k[:], string(info), n)
				if got := expand(t, k, info, n); err != nil || !bytes.Equal(got, want) {
					t.Errorf("by %x of %x, %d: not as the library's (%v)", k, info, n, err)
				}
			}
		}
	}
}

// P8.1: infos of all lengths up to beyond two pieces, and numbers of bytes, against what Python's cryptography reckons: its
// answers hashed together.
func TestExpandOfAllInfos(t *testing.T) {
	var all []byte
	for m := range 131 {
		for _, n := range numbers {
			all = append(all, expand(t, api.Key(sample.Drawn(3, 32)), sample.Drawn(4, m), n)...)
		}
	}
	for n := range 400 {
		all = append(all, expand(t, api.Key(sample.Drawn(5, 32)), sample.Drawn(6, 40), n)...)
	}
	if got := blake.Hash(all); got != api.Key(sample.Hex("e03bd6fe9f2567b7f44885b083aa6f0f184a6ea61f212a29f12fa8ed12fd1988")) {
		t.Errorf("%x", got)
	}
}

// P8.1: each bit of a key and of an info counts, and so do noughts behind the info, in the first part and in those behind it.
func TestExpandHangsOnKeyAndInfo(t *testing.T) {
	seen := once{}
	look := func(what string, k api.Key, info []byte) {
		for i, part := range slices.Collect(slices.Chunk(expand(t, k, info, 96), 32)) {
			seen.look(t, what+", part "+strconv.Itoa(i+1), part)
		}
	}
	k, info := api.Key(sample.Drawn(12, 32)), sample.Drawn(13, 65)
	look("as they are", k, info)
	for bit := range 256 {
		look("a bit of the key", api.Key(sample.Turned(k[:], bit)), info)
	}
	for bit := range 8 * 65 {
		look("a bit of the info", k, sample.Turned(info, bit))
	}
	for cut := range 65 {
		look("a shorter info", k, info[:cut])
		look("noughts behind the info", k, append(bytes.Clone(info), make([]byte, cut+1)...))
	}
}

// P8.1: no two of all the parts are alike.
func TestExpandDoesNotComeRound(t *testing.T) {
	for _, k := range keys() {
		for _, m := range lengths {
			seen := once{}
			for part := range slices.Chunk(expand(t, k, make([]byte, m), 8160), 32) {
				seen.look(t, "a part", part)
			}
			if len(seen) != 255 {
				t.Errorf("by %x, an info of %d bytes: %d parts", k, m, len(seen))
			}
		}
	}
}

// P8.1: what was handed in stays as it was, with the room behind it, which does not count; what was answered is the caller's own.
func TestExpandLeavesWhatItIsGiven(t *testing.T) {
	k := api.Key(sample.Drawn(14, 32))
	for _, m := range lengths {
		for _, n := range numbers {
			info := sample.Drawn(15, m+70)
			kept := bytes.Clone(info)
			got, again := expand(t, k, info[:m], n), expand(t, k, info[:m], n)
			if !bytes.Equal(info, kept) {
				t.Errorf("%d bytes, %d: the info, or what is behind it, is changed", m, n)
			}
			want := bytes.Clone(got)
			for i := range got[:cap(got)] {
				got[:cap(got)][i] ^= 0xff
			}
			if !bytes.Equal(info, kept) || !bytes.Equal(again, want) {
				t.Errorf("%d bytes, %d: the info or a second answer is changed with the first", m, n)
			}
			clear(info)
			if later := expand(t, k, kept[:m:m], n); !bytes.Equal(later, want) || !bytes.Equal(again, want) {
				t.Errorf("%d bytes, %d: another answer without room behind the info, or one that is changed with it", m, n)
			}
		}
	}
}

// P8.1: a call that was refused leaves the info alone, too.
func TestExpandLeavesWhatItRefuses(t *testing.T) {
	info := sample.Drawn(16, 40)
	kept := bytes.Clone(info)
	for _, n := range []int{-1, 8161} {
		kdf.Expand(api.Key{}, info[:20], n)
	}
	if !bytes.Equal(info, kept) {
		t.Errorf("%x, not %x", info, kept)
	}
}

// P8.2: keys that Python's hmac and cryptography reckon.
func TestChainOfKnown(t *testing.T) {
	for _, x := range []struct {
		k           api.Key
		in          []byte
		first, then string
	}{
		{
			api.Key{}, nil,
			"8387b46bf43eccfcf349552a095d8315c4055beb90208fb1be23b894bc2ed5d0",
			"58a0e5f6faefccf4807bff1f05fa8a9217945762040bcec2f4b4a62bdfe0e86e",
		},
		{
			api.Key(counted(0, 32)), []byte("abc"),
			"c67e0b211ebf48c12c6d41da8fcee207d4c325a8c30f054d97401b14ed212f9f",
			"923b032867c597d1df124053325e553b104bf3b76180a46e0c21b44001ec50f6",
		},
		{
			api.Key(bytes.Repeat([]byte{0xff}, 32)), counted(0, 65),
			"d16128a5d97457b68b31c0bd53753bbb390d01f914272babe148739411388d01",
			"76c7d3139b8035bf0533601d4c991dca4a84a5624429bca566d4aff33c99ad16",
		},
	} {
		if a, b := kdf.Chain(x.k, x.in); a != api.Key(sample.Hex(x.first)) || b != api.Key(sample.Hex(x.then)) {
			t.Errorf("of %x, %x: %x and %x", x.k, x.in, a, b)
		}
	}
}

// P8.2: all lengths up to beyond two pieces, against what Python's cryptography reckons: its answers hashed together.
func TestChainOfAllLengths(t *testing.T) {
	var all []byte
	for m := range 131 {
		a, b := kdf.Chain(api.Key(sample.Drawn(7, 32)), sample.Drawn(8, m))
		all = slices.Concat(all, a[:], b[:])
	}
	if got := blake.Hash(all); got != api.Key(sample.Hex("9edda866cf3e1058ce73587f83f1c44b443a2a65267a95044c974ad168d60d10")) {
		t.Errorf("%x", got)
	}
}

// P8.2: the macs that the chapter names; they are also what Extract and Expand give without an info, as the Noise framework has it.
func TestChainAsTheChapterTellsIt(t *testing.T) {
	for _, k := range keys() {
		for _, m := range lengths {
			for _, in := range sample.Kinds(m) {
				x := blake.Mac(k[:], in)
				first := blake.Mac(x[:], []byte{1})
				then := blake.Mac(x[:], []byte(string(first[:])+"\x02"))
				a, b := kdf.Chain(k, in)
				if a != first || b != then {
					t.Errorf("of %x, %x: %x and %x, not %x and %x", k, in, a, b, first, then)
				}
				if both := expand(t, kdf.Extract(k[:], in), nil, 64); !bytes.Equal(slices.Concat(a[:], b[:]), both) {
					t.Errorf("of %x, %x: %x and %x, but Expand %x", k, in, a, b, both)
				}
			}
		}
	}
	a, b := kdf.Chain(api.Key{}, nil)
	if c, d := kdf.Chain(api.Key{}, []byte{}); a != c || b != d {
		t.Errorf("of nothing %x and %x, of what is empty %x and %x", a, b, c, d)
	}
}

// P8.2: each bit of the key and of what is mixed in counts, for both keys, which are never the same.
func TestChainHangsOnBoth(t *testing.T) {
	seen := once{}
	look := func(what string, k api.Key, in []byte) {
		a, b := kdf.Chain(k, in)
		seen.look(t, what+", the first", a[:])
		seen.look(t, what+", the second", b[:])
	}
	k, in := api.Key(sample.Drawn(17, 32)), sample.Drawn(18, 65)
	look("as they are", k, in)
	for bit := range 256 {
		look("a bit of the key", api.Key(sample.Turned(k[:], bit)), in)
	}
	for bit := range 8 * 65 {
		look("a bit of what is mixed in", k, sample.Turned(in, bit))
	}
	for cut := range 65 {
		look("less mixed in", k, in[:cut])
		look("noughts behind it", k, append(bytes.Clone(in), make([]byte, cut+1)...))
	}
}

// P8.2: what was handed in stays as it was, with the room behind it, which does not count.
func TestChainLeavesWhatItIsGiven(t *testing.T) {
	for _, m := range lengths {
		k, in := api.Key(sample.Drawn(19, 32)), sample.Drawn(20, m+70)
		kept := bytes.Clone(in)
		a, b := kdf.Chain(k, in[:m])
		if !bytes.Equal(in, kept) || k != api.Key(sample.Drawn(19, 32)) {
			t.Errorf("%d bytes: what was handed in, or what is behind it, is changed", m)
		}
		clear(in)
		if c, d := kdf.Chain(k, kept[:m:m]); a != c || b != d {
			t.Errorf("%d bytes: %x and %x, and without room behind them %x and %x", m, a, b, c, d)
		}
	}
}

// P8.3: secrets and keys that Python's cryptography reckons.
func TestLaterAndOfOfKnown(t *testing.T) {
	for _, x := range []struct {
		secret    api.Key
		later, of string
	}{
		{
			api.Key{},
			"9f509c3c3a05deb92d9f909f4d95dfe30b24b77d2646f6d215536814b7c1a932",
			"7c6de8cde8fad56e3984d8573f5cf7bb002263c33934328ee83070f4f0313f91",
		},
		{
			api.Key(bytes.Repeat([]byte{0xff}, 32)),
			"bba509f59d48348a0865931eddf9035593b57c4c1bf8c69c19c1b705a43e8013",
			"72aac28643e44486979ff847717920d251f98e972e00af81562caca0b0401ffc",
		},
		{
			api.Key(counted(0, 32)),
			"2ae5dcdcada5915cc1a4cee7c62b05ccdc2f7d36f85c5f4febfb1eb4fcbdf455",
			"b6e377577c82b3b5f5270f80828e26decd2ef3f86d5103495f61f2a07432caaf",
		},
	} {
		if got := kdf.Later(x.secret); got != api.Key(sample.Hex(x.later)) {
			t.Errorf("behind %x: %x", x.secret, got)
		}
		if got := kdf.Of(x.secret); got != api.Key(sample.Hex(x.of)) {
			t.Errorf("of %x: %x", x.secret, got)
		}
	}
}

// P8.3: the first 32 bytes of Expand, by the infos that the chapter names.
func TestLaterAndOfAreExpand(t *testing.T) {
	for _, secret := range keys() {
		if got, want := kdf.Later(secret), expand(t, secret, []byte("sheave later"), 32); !bytes.Equal(got[:], want) {
			t.Errorf("behind %x: %x, not %x", secret, got, want)
		}
		if got, want := kdf.Of(secret), expand(t, secret, []byte("sheave key"), 32); !bytes.Equal(got[:], want) {
			t.Errorf("of %x: %x, not %x", secret, got, want)
		}
	}
}

// P8.3: a thousand epochs, against what Python's cryptography reckons: the last secret, and all keys hashed together.
func TestEpochs(t *testing.T) {
	secret := api.Key(counted(0, 32))
	var all []byte
	for range 1000 {
		k := kdf.Of(secret)
		all = append(all, k[:]...)
		secret = kdf.Later(secret)
	}
	if secret != api.Key(sample.Hex("c3f6ebe48b3eeddb9aa1d6ac3aa78ec4688bf3295b3916c3ff0ac97bb5729980")) {
		t.Errorf("the secret %x", secret)
	}
	if got := blake.Hash(all); got != api.Key(sample.Hex("d062796a9fd71099ba762c10a5bb6efe62cbaabbc2b934875f07d8f7df00afa1")) {
		t.Errorf("the keys %x", got)
	}
}

// P8.3: the chapter's example: two other ones, of noughts, and of all secrets along a row of epochs, and with a bit turned.
func TestLaterAndOfAreOthers(t *testing.T) {
	seen := once{}
	look := func(what string, secret api.Key) {
		later, of := kdf.Later(secret), kdf.Of(secret)
		seen.look(t, "behind "+what, later[:])
		seen.look(t, "of "+what, of[:])
	}
	var first api.Key
	seen.look(t, "noughts themselves", first[:])
	look("noughts", first)
	secret := first
	for range 500 {
		secret = kdf.Later(secret)
		look("a later secret", secret)
	}
	for bit := range 256 {
		look("a secret with a bit", api.Key(sample.Turned(first[:], bit)))
	}
}

// P8.4: over keys and infos, each pair of numbers at the edges.
func TestExpandToFewer(t *testing.T) {
	infos := [][]byte{nil, []byte("sheave later"), []byte("sheave key"), []byte(strings.Repeat("i", 200))}
	for _, m := range lengths {
		infos = append(infos, sample.Drawn(21, m))
	}
	for _, k := range keys() {
		for _, info := range infos {
			var fewer [][]byte
			for _, n := range numbers {
				more := expand(t, k, info, n)
				for _, b := range fewer {
					if !bytes.HasPrefix(more, b) {
						t.Errorf("by %x of %x: %d bytes are not the first of %d", k, info, len(b), n)
					}
				}
				fewer = append(fewer, more)
			}
		}
	}
}

// P8.4: every number up to some parts, and some of those behind, by one key.
func TestExpandToEachNumber(t *testing.T) {
	k, info := api.Key(sample.Drawn(22, 32)), sample.Drawn(23, 17)
	all := expand(t, k, info, 8160)
	for n := range 8161 {
		if n > 300 && n%97 > 1 && n%32 > 1 {
			continue
		}
		if got := expand(t, k, info, n); !bytes.Equal(got, all[:n]) {
			t.Errorf("%d bytes are not the first of 8160", n)
		}
	}
}

func BenchmarkExpand(b *testing.B) {
	k, info := api.Key(sample.Drawn(24, 32)), []byte("an info")
	b.SetBytes(8160)
	for b.Loop() {
		got, _ := kdf.Expand(k, info, 8160)
		k = api.Key(got[:32])
	}
}

func BenchmarkChain(b *testing.B) {
	k, in := api.Key(sample.Drawn(25, 32)), sample.Drawn(26, 32)
	for b.Loop() {
		k, _ = kdf.Chain(k, in)
	}
}

func BenchmarkLater(b *testing.B) {
	k := api.Key(sample.Drawn(27, 32))
	for b.Loop() {
		k = kdf.Later(k)
	}
}
