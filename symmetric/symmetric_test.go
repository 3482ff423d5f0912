package symmetric_test

import (
	"bytes"
	"testing"

	"sheave/api"
	"sheave/blake"
	"sheave/kdf"
	"sheave/sample"
	"sheave/symmetric"
)

// P12.1 to P12.3: the chapter's examples.
func TestExamples(t *testing.T) {
	a, b := symmetric.New(), symmetric.New()
	if got := a.Seal([]byte("x")); string(got) != "x" {
		t.Errorf("without a key: %x", got)
	}
	b.Mix([]byte("x"))
	if a.Hash() != b.Hash() {
		t.Errorf("sealed %x, mixed %x", a.Hash(), b.Hash())
	}
	a, b = symmetric.New(), symmetric.New()
	a.Key([]byte("y"))
	b.Key([]byte("y"))
	sealed := a.Seal([]byte("x"))
	if len(sealed) != 17 {
		t.Errorf("by a key: %x", sealed)
	}
	if got, e := b.Open([]byte("x")); e != api.ErrShort || len(got) != 0 {
		t.Errorf("of one byte: %x, error %d", got, e)
	}
	if got, e := b.Open(sealed); e != api.OK || string(got) != "x" {
		t.Errorf("of %x: %x, error %d", sealed, got, e)
	}
}

// isAt holds a state's hash, and the keys that it would end in, to digits.
func isAt(t *testing.T, s *symmetric.State, hash, first, second string) {
	t.Helper()
	if got := s.Hash(); got != hex(hash) {
		t.Errorf("the hash %x", got)
	}
	if a, b := s.Split(); a != hex(first) || b != hex(second) {
		t.Errorf("split into %x and %x", a, b)
	}
}

// P12.1 to P12.4: what Python's hashlib, hmac and cryptography reckon.
func TestOfKnown(t *testing.T) {
	const (
		newHash   = "bbea022b948cf3bc5857d70804229179e1116bc40cb8cc074835349c464bca36"
		newFirst  = "26937cb281910d8b8fd9937e44450633ee3c908791cc8d50b45a7f4126a3c054"
		newSecond = "c7ff3af72c3e5fc94f8c3f84fd52f9e5568a8ef4dd46e2ca0d7e99969decd81f"
		keyFirst  = "9281e1dfb121a8de4bae11a60848aff52553b89706ca6c7c961dc204298f6f97"
		keySecond = "f5b713c9958de9b7d8a08e0078dd18fd69b44a5b26352df801b2fa9705615813"
		lastHash  = "ef433713f388eb2ad499a672f46957b5dcc9468d00ec5d539d7684c43767782d"
	)
	s := symmetric.New()
	isAt(t, s, newHash, newFirst, newSecond)
	s.Mix(nil)
	isAt(t, s, "2f289177342da72536c1c74b8e1cf18b28b8a914918d02dcbce0f57c61e585b8", newFirst, newSecond)
	s = symmetric.New()
	s.Mix([]byte("x"))
	isAt(t, s, "7f6ebfd4a37f3469e31cb140d54914ee359f7ecb5fa1ebaf63dd56968a119e2e", newFirst, newSecond)
	s = symmetric.New()
	s.Key([]byte("y"))
	isAt(t, s, newHash, keyFirst, keySecond)
	for _, x := range []struct{ text, sealed string }{
		{"x", "9e5213936af59bab1bfc8717444202e9c6"},
		{"x", "8f679dee143d75cfdc3502591268487974"},
		{"", "ab37028e3840ffb09d22bdae46f88f8b"},
	} {
		if got := s.Seal([]byte(x.text)); !bytes.Equal(got, sample.Hex(x.sealed)) {
			t.Errorf("of %q: %x", x.text, got)
		}
	}
	isAt(t, s, lastHash, keyFirst, keySecond)
	s.Key(nil)
	isAt(t, s, lastHash, "251fede01a528b6c8a35afa22f6c0e9264e4bd37cd84ad961feac0347d7f3b22",
		"03c79408bc20463e858b5b66a94495e99550f25aa18bb98337956eb13317dcd9")
	for _, x := range []struct{ text, sealed string }{
		{"x", "f67774e95c68ae2d3d7b1c6f5626322efc"},
		{"", "834ba88c37732768bc225e9d60d34bc2"},
	} {
		if got, e := s.Open(sample.Hex(x.sealed)); e != api.OK || string(got) != x.text {
			t.Errorf("of %s: %x, error %d", x.sealed, got, e)
		}
	}
	if got := s.Hash(); got != hex("b3157122e235a3da8a195482caec162b61e987e1e3a85d98212b50dc1270cf30") {
		t.Errorf("in the end the hash %x", got)
	}
}

// P12.1: the hash of the name, which has 33 bytes, as the chain too, and no key.
func TestNew(t *testing.T) {
	name := []byte("Noise_IK_25519_ChaChaPoly_BLAKE2s")
	s := symmetric.New()
	if len(name) != 33 || s.Hash() != blake.Hash(name) {
		t.Errorf("%x", s.Hash())
	}
	a, b := s.Split()
	if c, d := kdf.Chain(blake.Hash(name), nil); a != c || b != d {
		t.Errorf("split into %x and %x", a, b)
	}
	if got, e := s.Open([]byte("short")); e != api.OK || string(got) != "short" {
		t.Errorf("%x, error %d", got, e)
	}
	begin().look(t)
}

// P12.1: two that were made apart have nothing in common (R8).
func TestTwoThatWereMadeApart(t *testing.T) {
	p := begin()
	other := begin()
	other.mix(t, drawn(5))
	other.key(t, drawn(6))
	other.seal(t, drawn(7))
	other.opens(t, drawn(8))
	p.look(t)
	p.key(t, drawn(9))
	other.look(t)
	begin().look(t)
}

// P12.1: the hash is told each time alike, and nothing is changed by asking.
func TestHashLeavesTheState(t *testing.T) {
	for _, p := range places(t) {
		for range 3 {
			if h := p.s.Hash(); h != p.m.h {
				t.Errorf("%s: %x, not %x", p.what, h, p.m.h)
			}
		}
		h := p.s.Hash()
		clear(h[:])
		p.look(t)
	}
}

// P12.1: bytes of all lengths, in states with a key and without one: neither the chain, nor the key or its number is changed.
func TestMix(t *testing.T) {
	for _, p := range places(t) {
		for _, b := range texts() {
			was := p.s.Hash()
			p.mix(t, b)
			if h := p.s.Hash(); h != blake.Hash(bytes.Join([][]byte{was[:], b}, nil)) {
				t.Errorf("%s: behind %x of %x: %x", p.what, was, b, h)
			}
		}
	}
}

// P12.1: all lengths up to some pieces of a hash.
func TestMixOfAllLengths(t *testing.T) {
	p := begin()
	for many := range 300 {
		p.mix(t, drawn(many))
	}
}

// P12.1: each bit, and where bytes are cut in two, counts.
func TestMixHangsOnEachByte(t *testing.T) {
	seen := map[api.Key]int{}
	look := func(number int, parts ...[]byte) {
		s := symmetric.New()
		for _, b := range parts {
			s.Mix(b)
		}
		if other, ok := seen[s.Hash()]; ok {
			t.Errorf("rows %d and %d have the same hash", other, number)
		}
		seen[s.Hash()] = number
	}
	b := drawn(70)
	look(0, b)
	for bit := range 8 * len(b) {
		look(1+bit, sample.Turned(b, bit))
	}
	for cut := range len(b) + 1 {
		look(1000+cut, b[:cut], b[cut:])
		look(2000+cut, append(bytes.Clone(b), make([]byte, cut+1)...))
	}
}

// P12.2: secrets of all lengths, in states with a key and without one: the hash stays, and the number is 0.
func TestKey(t *testing.T) {
	for _, p := range places(t) {
		for _, b := range texts() {
			was := p.s.Hash()
			p.key(t, b)
			if p.s.Hash() != was {
				t.Errorf("%s: the hash is changed by a key of %x", p.what, b)
			}
			p.seal(t, []byte("x"))
			p.opens(t, []byte("y"))
		}
	}
}

// P12.2: a key of nothing is one, too, and nil is the same as what is empty.
func TestKeyOfNothing(t *testing.T) {
	a, b := symmetric.New(), symmetric.New()
	a.Key(nil)
	b.Key([]byte{})
	x, y := a.Seal([]byte("x")), b.Seal([]byte("x"))
	if len(x) != 17 || !bytes.Equal(x, y) {
		t.Errorf("%x and %x", x, y)
	}
}

// P12.2: by a second key the number begins with 0 again, however often the first was used; what was sealed by the one does not
// open by the other.
func TestKeyAgain(t *testing.T) {
	for _, used := range []int{0, 1, 2, 255, 256, 257} {
		p := begin()
		p.key(t, []byte("first"))
		for range used {
			p.seal(t, []byte("text"))
		}
		stays := p.clone()
		by := stays.s.Clone().Seal([]byte("text"))
		p.key(t, []byte("second"))
		if p.m.n != 0 {
			t.Fatalf("the test itself has %d", p.m.n)
		}
		p.refuses(t, by, api.ErrForged)
		p.opens(t, []byte("text"))
		p.seal(t, nil)
		stays.opens(t, []byte("text"))
	}
}

// P12.2: each secret taken counts, and so does their order.
func TestKeysAreChained(t *testing.T) {
	seen := map[api.Key]int{}
	for number, row := range [][]string{
		{}, {""}, {"", ""}, {"a"}, {"b"}, {"a", "b"}, {"b", "a"}, {"ab"}, {"a", ""}, {"", "a"}, {"a", "a"}, {"a", "b", "c"},
		{"a", "c", "b"}, {"ab", "c"}, {"a", "bc"},
	} {
		p := begin()
		for _, b := range row {
			p.key(t, []byte(b))
		}
		for _, k := range keysOf(p.s.Split()) {
			if other, ok := seen[k]; ok {
				t.Errorf("rows %d and %d have the key %x", other, number, k)
			}
			seen[k] = number
		}
	}
}

func keysOf(a, b api.Key) []api.Key { return []api.Key{a, b} }

// P12.4: the chain with nothing; asked often, and with all else behind it, the state stays.
func TestSplit(t *testing.T) {
	for _, p := range places(t) {
		first, second := p.s.Split()
		if a, b := kdf.Chain(p.m.c, nil); first != a || second != b || first == second {
			t.Errorf("%s: %x and %x, not %x and %x", p.what, first, second, a, b)
		}
		for range 3 {
			if a, b := p.s.Split(); a != first || b != second {
				t.Errorf("%s: then %x and %x, not %x and %x", p.what, a, b, first, second)
			}
			p.mix(t, drawn(11))
			p.seal(t, drawn(12))
			p.opens(t, drawn(13))
		}
		p.key(t, drawn(14))
		if a, b := p.s.Split(); a == first || b == second {
			t.Errorf("%s: a key leaves %x and %x", p.what, a, b)
		}
	}
}

// deeds are each call that changes a state.
func deeds() map[string]func(*testing.T, *pair) {
	return map[string]func(*testing.T, *pair){
		"mix":   func(t *testing.T, p *pair) { p.mix(t, drawn(21)) },
		"key":   func(t *testing.T, p *pair) { p.key(t, drawn(22)) },
		"seal":  func(t *testing.T, p *pair) { p.seal(t, drawn(23)) },
		"open":  func(t *testing.T, p *pair) { p.opens(t, drawn(24)) },
		"split": func(t *testing.T, p *pair) { p.s.Split() },
		"wrong": func(t *testing.T, p *pair) {
			if p.m.keyed {
				p.refuses(t, drawn(25), api.ErrForged)
			}
		},
	}
}

// P12.4: a clone goes its own way, and so does what it was made of (R7), whatever is done of the one and of the other.
func TestClone(t *testing.T) {
	for _, p := range places(t) {
		for _, one := range deeds() {
			for _, two := range deeds() {
				from := p.clone()
				c := from.clone()
				d := c.clone()
				one(t, from)
				c.look(t)
				two(t, c)
				from.look(t)
				d.look(t)
				one(t, d)
				c.look(t)
				two(t, from)
				c.look(t)
				d.look(t)
			}
		}
		p.look(t)
	}
}

// P12.4: a clone is another state, even if nothing is done of it.
func TestCloneIsAnother(t *testing.T) {
	for _, p := range places(t) {
		if c := p.s.Clone(); c == p.s || c == nil || c == p.s.Clone() {
			t.Errorf("%s: the same state", p.what)
		}
	}
}

// P12.1, P12.2: what is handed in stays as it was, with the room behind it, and the state does not hang on what becomes of it.
func TestMixAndKeyLeaveWhatTheyAreGiven(t *testing.T) {
	for _, p := range places(t) {
		for _, many := range lengths {
			for _, take := range []func(*pair, []byte){
				func(p *pair, b []byte) { p.mix(t, b) },
				func(p *pair, b []byte) { p.key(t, b) },
			} {
				q := p.clone()
				b := sample.Roomy(drawn(many))
				kept := sample.Whole(b)
				take(q, b)
				if !bytes.Equal(sample.Whole(b), kept) {
					t.Errorf("%s: %d bytes, or what is behind them, are changed", p.what, many)
				}
				sample.Spoil(b)
				q.look(t)
				q.seal(t, drawn(5))
			}
		}
	}
}

func BenchmarkMix(b *testing.B) {
	s, text := symmetric.New(), drawn(48)
	for b.Loop() {
		s.Mix(text)
	}
}

func BenchmarkKey(b *testing.B) {
	s, secret := symmetric.New(), drawn(32)
	for b.Loop() {
		s.Key(secret)
	}
}

func BenchmarkSeal(b *testing.B) {
	s, text := symmetric.New(), drawn(128)
	s.Key(nil)
	for b.Loop() {
		s.Seal(text)
	}
}
