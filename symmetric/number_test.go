package symmetric

import (
	"bytes"
	"testing"

	"sheave/aead"
	"sheave/api"
	"sheave/sample"
)

// P12.3: numbers that no test could seal up to, with their nonces written out: who seals takes them, who opens does, and the
// next one is one more. This test stands inside the package, since a number can't be set from outside.
func TestGreatNumbers(t *testing.T) {
	for _, x := range []struct {
		number uint64
		nonce  string
	}{
		{0, "000000000000000000000000"},
		{1, "000000000100000000000000"},
		{255, "00000000ff00000000000000"},
		{256, "000000000001000000000000"},
		{1<<16 - 1, "00000000ffff000000000000"},
		{1 << 16, "000000000000010000000000"},
		{1 << 24, "000000000000000100000000"},
		{1<<32 - 1, "00000000ffffffff00000000"},
		{1 << 32, "000000000000000001000000"},
		{1 << 40, "000000000000000000010000"},
		{1 << 48, "000000000000000000000100"},
		{0x0123456789abcdef, "00000000efcdab8967452301"},
		{1 << 63, "000000000000000000000080"},
		{1<<64 - 2, "00000000feffffffffffffff"},
	} {
		s := New()
		s.Key([]byte("secret"))
		s.number = x.number
		other := s.Clone()
		hash := s.Hash()
		want := aead.Seal(s.key, api.Nonce(sample.Hex(x.nonce)), hash[:], []byte("text"))
		if got := s.Seal([]byte("text")); !bytes.Equal(got, want) {
			t.Errorf("number %d: %x, not %x", x.number, got, want)
		}
		if got, e := other.Open(want); e != api.OK || string(got) != "text" {
			t.Errorf("number %d: %x, error %d", x.number, got, e)
		}
		if s.number != x.number+1 || *s != *other {
			t.Errorf("behind number %d: %d and %d", x.number, s.number, other.number)
		}
	}
}
