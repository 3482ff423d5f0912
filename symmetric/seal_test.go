package symmetric_test

import (
	"bytes"
	"crypto/sha256"
	"testing"

	"sheave/api"
	"sheave/blake"
	"sheave/sample"
	"sheave/symmetric"
)

// P12.3: without a key a text is sealed and opened as it is, and mixed; there is no length that is too short.
func TestWithoutKey(t *testing.T) {
	for _, p := range keyless(t) {
		for _, text := range texts() {
			was := p.s.Hash()
			if got := p.s.Clone().Seal(text); !bytes.Equal(got, text) {
				t.Errorf("%s: of %x: %x", p.what, text, got)
			}
			p.seal(t, text)
			if p.s.Hash() != blake.Hash(append(was[:], text...)) {
				t.Errorf("%s: of %x the hash %x", p.what, text, p.s.Hash())
			}
			p.opens(t, text)
		}
	}
}

// P12.3: with a key, in states that have done this and that: 16 bytes more, and what is mixed is what was sealed.
func TestWithKey(t *testing.T) {
	for _, p := range keyed(t) {
		for _, text := range texts() {
			was := p.s.Hash()
			sealed := p.s.Clone().Seal(text)
			if len(sealed) != len(text)+16 {
				t.Errorf("%s: of %d bytes %d", p.what, len(text), len(sealed))
			}
			p.seal(t, text)
			if p.s.Hash() != blake.Hash(append(was[:], sealed...)) {
				t.Errorf("%s: of %x the hash %x", p.what, text, p.s.Hash())
			}
			p.opens(t, text)
		}
	}
}

// P12.3: all lengths up to some blocks, sealed and opened in turn.
func TestOfAllLengths(t *testing.T) {
	p := begin()
	p.key(t, drawn(32))
	for many := range 300 {
		p.seal(t, drawn(many))
		p.opens(t, drawn(many))
	}
}

// P12.3: the number goes past one byte and past two, against what Python's cryptography seals: its answers hashed together.
func TestOfMany(t *testing.T) {
	a, b := symmetric.New(), symmetric.New()
	a.Key([]byte("many"))
	b.Key([]byte("many"))
	all := sha256.New()
	for i := range 70000 {
		text := sample.Drawn(uint64(i), i%3)
		sealed := a.Seal(text)
		all.Write(sealed)
		if got, e := b.Open(sealed); e != api.OK || !bytes.Equal(got, text) {
			t.Fatalf("number %d: %x, error %d, not %x", i, got, e, text)
		}
	}
	if got := all.Sum(nil); !bytes.Equal(got, sample.Hex("3cd826c076bca98f182ecd1477ac44a2aee0b5497b0bd8bf46e64e6193607287")) {
		t.Errorf("%x", got)
	}
	want := hex("4643a9481d6442e55deec5aad195ba456e0274e610ca15ba86d942305b0bfeb0")
	if a.Hash() != want || b.Hash() != want {
		t.Errorf("the hashes %x and %x", a.Hash(), b.Hash())
	}
}

// P12.3: who seals and who opens take numbers of one row: what is sealed behind an opening has the next number.
func TestSealAndOpenTakeOneRowOfNumbers(t *testing.T) {
	p := begin()
	p.key(t, drawn(32))
	for i := range 600 {
		if i%3 == 0 {
			p.opens(t, drawn(i%20))
		} else {
			p.seal(t, drawn(i%20))
		}
	}
	if p.m.n != 600 {
		t.Fatalf("the test itself has %d", p.m.n)
	}
}

// P12.3: the same text is sealed to other bytes each time.
func TestSealIsAnotherEachTime(t *testing.T) {
	s := symmetric.New()
	s.Key(nil)
	seen := map[string]int{}
	for i := range 1000 {
		b := s.Seal([]byte("the same text"))
		if other, ok := seen[string(b)]; ok {
			t.Errorf("numbers %d and %d: %x", other, i, b)
		}
		seen[string(b)] = i
	}
}

// P12.3: with a key, 0 to 15 bytes are too short, whatever they are, and nothing is changed; the next right bytes open.
func TestOpenOfTooShort(t *testing.T) {
	for _, p := range keyed(t) {
		p.refuses(t, nil, api.ErrShort)
		for many := range 16 {
			for _, b := range sample.Kinds(many) {
				p.refuses(t, b, api.ErrShort)
			}
			p.opens(t, drawn(many))
		}
	}
}

// P12.3: a bit turned, of the text or of the tag, one at a time: nothing is changed, and the right bytes open.
func TestOpenOfTurned(t *testing.T) {
	for _, p := range keyed(t) {
		for _, many := range []int{0, 1, 16, 20} {
			m := p.m
			sealed := m.seal(drawn(many))
			for bit := range 8 * len(sealed) {
				p.refuses(t, sample.Turned(sealed, bit), api.ErrForged)
			}
			p.opens(t, drawn(many))
		}
		for _, many := range lengths {
			m := p.m
			sealed := m.seal(drawn(many))
			for _, bit := range []int{0, 8*many + 127, 8 * many, 4 * many} {
				p.refuses(t, sample.Turned(sealed, bit), api.ErrForged)
			}
			p.opens(t, drawn(many))
		}
	}
}

// P12.3: what was cut at either end, or has more behind it, and bytes that nobody sealed.
func TestOpenOfOtherLengths(t *testing.T) {
	for _, p := range keyed(t) {
		m := p.m
		sealed := m.seal(drawn(40))
		for cut := 1; cut <= 40; cut++ {
			p.refuses(t, sealed[:len(sealed)-cut], api.ErrForged)
			p.refuses(t, sealed[cut:], api.ErrForged)
			p.refuses(t, append(bytes.Clone(sealed), make([]byte, cut)...), api.ErrForged)
			p.refuses(t, append(make([]byte, cut), sealed...), api.ErrForged)
		}
		for _, many := range lengths {
			for _, b := range sample.Kinds(many + 16) {
				p.refuses(t, b, api.ErrForged)
			}
		}
		p.opens(t, drawn(40))
	}
}

// P12.3: bytes that do not open are told the same, as often as they are tried, and the right ones open all the same.
func TestOpenRefusesOften(t *testing.T) {
	for _, p := range keyed(t) {
		m := p.m
		wrong := sample.Turned(m.seal(drawn(9)), 3)
		for range 300 {
			p.refuses(t, wrong, api.ErrForged)
			p.refuses(t, wrong[:15], api.ErrShort)
		}
		p.opens(t, drawn(9))
		p.refuses(t, wrong, api.ErrForged)
	}
}

// P12.3: what was sealed opens once, in its turn, and for who did the same ahead of it alone.
func TestOpenHangsOnAllAhead(t *testing.T) {
	p := begin()
	p.mix(t, []byte("public"))
	p.key(t, []byte("secret"))
	m := p.m
	first, second := m.seal([]byte("first")), m.seal([]byte("second"))
	p.refuses(t, second, api.ErrForged)
	for what, other := range map[string]func(*pair){
		"mixed":    func(q *pair) { q.mix(t, nil) },
		"key":      func(q *pair) { q.key(t, []byte("secret")) },
		"sealed":   func(q *pair) { q.seal(t, nil) },
		"opened":   func(q *pair) { q.opens(t, []byte("another")) },
		"the next": func(q *pair) { q.opens(t, []byte("first")) },
	} {
		q := p.clone()
		other(q)
		if got, e := q.s.Open(first); e != api.ErrForged || len(got) != 0 {
			t.Errorf("%s: %x, error %d", what, got, e)
		}
		q.look(t)
	}
	p.opens(t, []byte("first"))
	p.refuses(t, first, api.ErrForged)
	p.opens(t, []byte("second"))
	p.refuses(t, second, api.ErrForged)
}

// P12.3: the hash alone, or the number alone, or the key alone is another one: none of them opens.
func TestOpenHangsOnHashNumberAndKey(t *testing.T) {
	p := begin()
	p.key(t, []byte("secret"))
	p.seal(t, []byte("ahead"))
	for what, change := range map[string]func(*model){
		"hash":   func(m *model) { m.h[31] ^= 1 },
		"number": func(m *model) { m.n++ },
		"first":  func(m *model) { m.n = 0 },
		"high":   func(m *model) { m.n += 256 },
		"key":    func(m *model) { m.k[0] ^= 128 },
		"none":   func(m *model) { m.keyed = false },
	} {
		m := p.m
		change(&m)
		sealed := m.seal(drawn(30))
		if got, e := p.s.Open(sealed); e != api.ErrForged || len(got) != 0 {
			t.Errorf("%s: %x, error %d", what, got, e)
		}
		p.look(t)
	}
	p.opens(t, drawn(30))
}

// P12.3: what is handed in stays as it was, with the room behind it; what is answered is the caller's own; and the state does
// not hang on what becomes of either.
func TestSealAndOpenLeaveWhatTheyAreGiven(t *testing.T) {
	for _, p := range places(t) {
		for _, many := range lengths {
			text := sample.Roomy(drawn(many))
			kept := sample.Whole(text)
			q, twin := p.clone(), p.clone()
			sealed, same := q.s.Seal(text), bytes.Clone(q.m.seal(text))
			if !bytes.Equal(sample.Whole(text), kept) || !bytes.Equal(sealed, same) {
				t.Errorf("%s: %d bytes, or what is behind them, are changed", p.what, many)
			}
			sample.Spoil(text)
			if !bytes.Equal(sealed, same) {
				t.Errorf("%s: %d bytes: what was sealed hangs on the text", p.what, many)
			}
			sample.Spoil(sealed)
			q.look(t)
			if !bytes.Equal(text[:many], inverted(kept[:many])) {
				t.Errorf("%s: %d bytes: the text hangs on what was sealed", p.what, many)
			}
			opensApart(t, twin, same, kept[:many])
		}
	}
}

func inverted(b []byte) []byte {
	b = bytes.Clone(b)
	for i := range b {
		b[i] ^= 0xff
	}
	return b
}

// opensApart holds that a text and what it is opened from have nothing in common, and the state nothing with either.
func opensApart(t *testing.T, p *pair, sealed, text []byte) {
	t.Helper()
	b := sample.Roomy(sealed)
	kept := sample.Whole(b)
	got, e := p.s.Open(b)
	p.m.seal(text)
	if e != api.OK || !bytes.Equal(got, text) || !bytes.Equal(sample.Whole(b), kept) {
		t.Errorf("%x, error %d, not %x; or what was handed in is changed", got, e, text)
	}
	sample.Spoil(b)
	if !bytes.Equal(got, text) {
		t.Errorf("the text %x hangs on what was handed in", text)
	}
	sample.Spoil(got)
	if !bytes.Equal(b, inverted(sealed)) {
		t.Errorf("what was handed in hangs on the text %x", text)
	}
	p.look(t)
}

// P12.3: bytes that do not open stay as they were, too.
func TestRefusedBytesStay(t *testing.T) {
	for _, p := range keyed(t) {
		for _, many := range lengths {
			b := sample.Roomy(drawn(many))
			kept := sample.Whole(b)
			p.s.Open(b)
			if !bytes.Equal(sample.Whole(b), kept) {
				t.Errorf("%s: %d bytes, or what is behind them, are changed", p.what, many)
			}
			p.look(t)
		}
	}
}
