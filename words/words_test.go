package words_test

import (
	"bytes"
	"encoding/binary"
	"math/big"
	"testing"

	"sheave/words"
)

var edges = []uint64{0, 1, 2, 0xff, 0x100, 0x0123456789abcdef, 1 << 32, 1<<32 - 1, 1 << 63, 1<<63 - 1, 1<<64 - 2, 1<<64 - 1}

// Bytes stand the lowest first, and what is behind the eighth is left alone.
func TestOfAndPut(t *testing.T) {
	for _, w := range edges {
		want := append(binary.LittleEndian.AppendUint64(nil, w), 0x5a)
		got := bytes.Repeat([]byte{0x5a}, 9)
		words.Put(got, w)
		if !bytes.Equal(got, want) {
			t.Errorf("Put of %x: %x", w, got)
		}
		if back := words.Of(want); back != w {
			t.Errorf("Of(%x): %x", want, back)
		}
	}
}

// The same of words of 32 bits, with four bytes.
func TestOf32AndPut32(t *testing.T) {
	for _, wide := range edges {
		for _, w := range []uint32{uint32(wide), uint32(wide >> 32)} {
			want := append(binary.LittleEndian.AppendUint32(nil, w), 0x5a)
			got := bytes.Repeat([]byte{0x5a}, 5)
			words.Put32(got, w)
			if !bytes.Equal(got, want) {
				t.Errorf("Put32 of %x: %x", w, got)
			}
			if back := words.Of32(want); back != w {
				t.Errorf("Of32(%x): %x", want, back)
			}
		}
	}
}

func TestPick(t *testing.T) {
	for _, a := range edges {
		for _, b := range edges {
			if words.Pick(0, a, b) != a || words.Pick(1, a, b) != b {
				t.Errorf("of %x, %x", a, b)
			}
		}
	}
}

func TestStep(t *testing.T) {
	wide := func(n uint64) *big.Int { return new(big.Int).SetUint64(n) }
	for _, a := range edges {
		for _, b := range edges {
			for _, c := range edges {
				for _, d := range edges {
					want := new(big.Int).Mul(wide(a), wide(b))
					want.Add(want, wide(c)).Add(want, wide(d))
					high, low := words.Step(a, b, c, d)
					got := new(big.Int).Lsh(wide(high), 64)
					if got.Add(got, wide(low)).Cmp(want) != 0 {
						t.Errorf("%x * %x + %x + %x: %x", a, b, c, d, got)
					}
				}
			}
		}
	}
}
