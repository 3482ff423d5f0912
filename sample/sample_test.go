package sample_test

import (
	"bytes"
	"encoding/hex"
	"testing"

	"sheave/sample"
)

// What the library reads, Hex reads too, in both cases of letters.
func TestHex(t *testing.T) {
	for many := range 40 {
		b := sample.Drawn(1, many)
		s := hex.EncodeToString(b)
		if got := sample.Hex(s); !bytes.Equal(got, b) {
			t.Errorf("%s: %x", s, got)
		}
	}
	if got := sample.Hex("00fFAb7f"); !bytes.Equal(got, []byte{0, 255, 171, 127}) {
		t.Errorf("%x", got)
	}
}

// A slip in the digits is not passed over.
func TestHexPanics(t *testing.T) {
	for _, s := range []string{"0", "000", "0g", "+1", "1_", " 1", "0x", "é"} {
		func() {
			defer func() { recover() }()
			t.Errorf("%q: %x", s, sample.Hex(s))
		}()
	}
}

// The same each time for a seed, another for another one, and fewer of them are the first of more.
func TestDrawn(t *testing.T) {
	seen := map[string]uint64{}
	for seed := range uint64(100) {
		long := sample.Drawn(seed, 64)
		if got := sample.Drawn(seed, 20); !bytes.Equal(got, long[:20]) {
			t.Errorf("seed %d: %x, and of more %x", seed, got, long)
		}
		if other, ok := seen[string(long)]; ok {
			t.Errorf("seeds %d and %d draw the same", other, seed)
		}
		seen[string(long)] = seed
	}
}
