package symmetric_test

import (
	"bytes"
	"encoding/binary"
	"testing"

	"sheave/aead"
	"sheave/api"
	"sheave/blake"
	"sheave/kdf"
	"sheave/sample"
	"sheave/symmetric"
)

// lengths are those at which a tag, a piece of a hash or a block of the stream begins or ends, or nearly, and longer ones.
var lengths = []int{0, 1, 15, 16, 17, 31, 32, 33, 47, 48, 63, 64, 65, 128, 300, 511}

func drawn(many int) []byte { return sample.Drawn(uint64(many), many) }

// texts are none, and of each length some of noughts, of ones and without a rule.
func texts() [][]byte {
	l := [][]byte{nil}
	for _, many := range lengths {
		l = append(l, sample.Kinds(many)...)
	}
	return l
}

// model reckons by the chapter's words, with the layers below.
type model struct {
	h, c, k api.Key
	keyed   bool
	n       int
}

func newModel() model {
	h := blake.Hash([]byte("Noise_IK_25519_ChaChaPoly_BLAKE2s"))
	return model{h: h, c: h}
}

func (m *model) mix(b []byte) { m.h = blake.Hash(append(bytes.Clone(m.h[:]), b...)) }

func (m *model) key(b []byte) {
	m.c, m.k = kdf.Chain(m.c, b)
	m.keyed, m.n = true, 0
}

func (m *model) seal(text []byte) []byte {
	b := bytes.Clone(text)
	if m.keyed {
		n := api.Nonce(binary.LittleEndian.AppendUint64(make([]byte, 4), uint64(m.n)))
		b = aead.Seal(m.k, n, m.h[:], text)
		m.n++
	}
	m.mix(b)
	return b
}

func (m *model) split() (api.Key, api.Key) { return kdf.Chain(m.c, []byte{}) }

// pair is a state beside what the test itself reckons: what is done of it is done of both, and they are held against each
// other.
type pair struct {
	s *symmetric.State
	m model
}

func begin() *pair { return &pair{symmetric.New(), newModel()} }

func (p *pair) clone() *pair { return &pair{p.s.Clone(), p.m} }

// look holds all of a state to the model: its hash, its chain by Split, and by what a clone seals its key and its number.
func (p *pair) look(t *testing.T) {
	t.Helper()
	m := p.m
	if h := p.s.Hash(); h != m.h {
		t.Errorf("the hash %x, not %x", h, m.h)
	}
	a, b := p.s.Split()
	if c, d := m.split(); a != c || b != d {
		t.Errorf("split into %x and %x, not %x and %x", a, b, c, d)
	}
	text := []byte("the next")
	if got, want := p.s.Clone().Seal(text), m.seal(text); !bytes.Equal(got, want) {
		t.Errorf("would seal %x, not %x (behind %d)", got, want, p.m.n)
	}
}

func (p *pair) mix(t *testing.T, b []byte) {
	t.Helper()
	p.s.Mix(b)
	p.m.mix(b)
	p.look(t)
}

func (p *pair) key(t *testing.T, b []byte) {
	t.Helper()
	p.s.Key(b)
	p.m.key(b)
	p.look(t)
}

func (p *pair) seal(t *testing.T, text []byte) {
	t.Helper()
	if got, want := p.s.Seal(text), p.m.seal(text); !bytes.Equal(got, want) {
		t.Errorf("of %x: %x, not %x", text, got, want)
	}
	p.look(t)
}

// opens opens what the model seals.
func (p *pair) opens(t *testing.T, text []byte) {
	t.Helper()
	sealed := p.m.seal(text)
	if got, e := p.s.Open(sealed); e != api.OK || !bytes.Equal(got, text) {
		t.Errorf("of %x: %x, error %d, not %x", sealed, got, e, text)
	}
	p.look(t)
}

// refuses holds that bytes do not open, and that nothing is changed then.
func (p *pair) refuses(t *testing.T, b []byte, want api.Errno) {
	t.Helper()
	if got, e := p.s.Open(b); e != want || len(got) != 0 {
		t.Errorf("of %x: %x, error %d, not %d", b, got, e, want)
	}
	p.look(t)
}

// place is a pair, and what it has behind it.
type place struct {
	what string
	*pair
}

// keyless are states without a key.
func keyless(t *testing.T) []place {
	t.Helper()
	mixed, sealed, opened := begin(), begin(), begin()
	mixed.mix(t, drawn(40))
	sealed.seal(t, drawn(7))
	opened.opens(t, drawn(70))
	return []place{{"new", begin()}, {"mixed", mixed}, {"sealed", sealed}, {"opened", opened}}
}

// keyed are states with a key.
func keyed(t *testing.T) []place {
	t.Helper()
	var l []place
	for _, p := range keyless(t) {
		p.key(t, drawn(32))
		l = append(l, place{p.what + ", a key", p.pair})
	}
	once, often, again := l[0].clone(), l[0].clone(), l[1].clone()
	once.seal(t, drawn(20))
	for range 130 {
		often.seal(t, drawn(3))
		often.opens(t, drawn(2))
	}
	again.seal(t, nil)
	again.key(t, nil)
	again.mix(t, nil)
	return append(l, place{"sealed by a key", once}, place{"sealed and opened often", often}, place{"two keys", again})
}

func places(t *testing.T) []place {
	t.Helper()
	return append(keyless(t), keyed(t)...)
}

// hex reads 64 hexadecimal digits.
func hex(digits string) api.Key { return api.Key(sample.Hex(digits)) }
