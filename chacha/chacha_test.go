package chacha_test

import (
	"bytes"
	"encoding/binary"
	"slices"
	"testing"

	"sheave/api"
	"sheave/chacha"
	"sheave/sample"
)

const (
	noughts   = "0000000000000000000000000000000000000000000000000000000000000000"
	ones      = "ffffffffffffffffffffffffffffffffffffffffffffffffffffffffffffffff"
	upwards   = "000102030405060708090a0b0c0d0e0f101112131415161718191a1b1c1d1e1f"
	sunscreen = "Ladies and Gentlemen of the class of '99: If I could offer you only one tip for the future, sunscreen would be it."
)

// setting is what a stream hangs on.
type setting struct {
	key     api.Key
	counter uint32
	nonce   api.Nonce
}

func (s setting) xor(b []byte) []byte { return chacha.Xor(s.key, s.counter, s.nonce, b) }

// settings are keys and nonces of noughts, of ones and without a rule, each with the counters at which something ends.
func settings() []setting {
	keys := []api.Key{api.Key(sample.Hex(noughts)), api.Key(sample.Hex(ones)), api.Key(sample.Hex(upwards))}
	nonces := []api.Nonce{{}, api.Nonce(sample.Hex(ones)[:12]), {7: 0x4a}}
	for seed := range uint64(4) {
		keys = append(keys, api.Key(sample.Drawn(seed, 32)))
		nonces = append(nonces, api.Nonce(sample.Drawn(seed+100, 12)))
	}
	var l []setting
	for i, key := range keys {
		for _, counter := range []uint32{0, 1, 2, 0xff, 0x100, 0x7fffffff, 0x80000000, 0xfffffffe, 0xffffffff} {
			l = append(l, setting{key, counter, nonces[i]})
		}
	}
	return l
}

// lengths are those at which a block begins or ends, or nearly.
var lengths = []int{0, 1, 2, 63, 64, 65, 127, 128, 129, 191, 192, 193, 1000}

// slowRol turns bit by bit, in 64 bits of which only the lower 32 count.
func slowRol(x uint64, n int) uint64 {
	for range n {
		x = x<<1&0xffffffff | x>>31
	}
	return x
}

// slowQuarter reckons modulo 2^32 by division, step by step from a list that tells which words meet.
func slowQuarter(x [4]uint64) [4]uint64 {
	for _, s := range []struct{ sum, by, turned, n int }{{0, 1, 3, 16}, {2, 3, 1, 12}, {0, 1, 3, 8}, {2, 3, 1, 7}} {
		x[s.sum] = (x[s.sum] + x[s.by]) % (1 << 32)
		x[s.turned] = slowRol(x[s.turned]^x[s.sum], s.n)
	}
	return x
}

// slowBlock goes by columns alone: ahead of every second round each row is moved so that the diagonals are columns.
func slowBlock(s setting) []byte {
	text := slices.Concat([]byte("expand 32-byte k"), s.key[:], binary.LittleEndian.AppendUint32(nil, s.counter), s.nonce[:])
	var start, m [4][4]uint64
	for i := range 16 {
		start[i/4][i%4] = uint64(binary.LittleEndian.Uint32(text[4*i:]))
	}
	m = start
	for round := range 20 {
		shift := round % 2
		for col := range 4 {
			var x [4]uint64
			for row := range x {
				x[row] = m[row][(col+shift*row)%4]
			}
			for row, w := range slowQuarter(x) {
				m[row][(col+shift*row)%4] = w
			}
		}
	}
	var out []byte
	for i := range 16 {
		out = binary.LittleEndian.AppendUint32(out, uint32(m[i/4][i%4]+start[i/4][i%4]))
	}
	return out
}

// slowXor goes piece by piece, with the number of each one's block reckoned modulo 2^32 by division.
func slowXor(s setting, b []byte) []byte {
	var out []byte
	number := uint64(s.counter)
	for piece := range slices.Chunk(b, 64) {
		s.counter = uint32(number % (1 << 32))
		block := slowBlock(s)
		for i := range piece {
			out = append(out, piece[i]^block[i])
		}
		number++
	}
	return out
}

// P4.1: the chapter's example, that of RFC 8439 (2.2.1), and edges.
func TestQuarterOfKnown(t *testing.T) {
	for _, x := range []struct{ of, want [4]uint32 }{
		{[4]uint32{0x11111111, 0x01020304, 0x9b8d6f43, 0x01234567}, [4]uint32{0xea2a92f4, 0xcb1cf8ce, 0x4581472e, 0x5881c4bb}},
		{[4]uint32{0x516461b1, 0x2a5f714c, 0x53372767, 0x3d631689}, [4]uint32{0xbdb886dc, 0xcfacafd2, 0xe46bea80, 0xccc07c79}},
		{[4]uint32{}, [4]uint32{}},
		{[4]uint32{0: 1}, [4]uint32{0x10000001, 0x80808808, 0x01010110, 0x01000110}},
	} {
		if got := chacha.Quarter(x.of); got != x.want {
			t.Errorf("of %08x: %08x, not %08x", x.of, got, x.want)
		}
	}
}

// P4.1: every way to put edges together, and each bit alone, against the slow reckoning.
func TestQuarterStepByStep(t *testing.T) {
	check := func(x [4]uint32) {
		slow := slowQuarter([4]uint64{uint64(x[0]), uint64(x[1]), uint64(x[2]), uint64(x[3])})
		want := [4]uint32{uint32(slow[0]), uint32(slow[1]), uint32(slow[2]), uint32(slow[3])}
		kept := x
		if got := chacha.Quarter(x); got != want {
			t.Errorf("of %08x: %08x, not %08x", x, got, want)
		}
		if x != kept {
			t.Errorf("what was handed in is changed: %08x, not %08x", x, kept)
		}
	}
	edges := []uint32{0, 1, 0xffffffff, 0x80000000, 0x7fffffff, 0x01234567}
	for i := range 6 * 6 * 6 * 6 {
		check([4]uint32{edges[i%6], edges[i/6%6], edges[i/36%6], edges[i/216]})
	}
	for bit := range 128 {
		var x [4]uint32
		x[bit/32] = 1 << (bit % 32)
		check(x)
	}
	for seed := range uint64(500) {
		b := sample.Drawn(seed, 16)
		var x [4]uint32
		for i := range x {
			x[i] = binary.LittleEndian.Uint32(b[4*i:])
		}
		check(x)
	}
}

// P4.2: the chapter's example, those of RFC 8439 (2.3.2 and A.1), and ones throughout.
func TestBlockOfKnown(t *testing.T) {
	for _, x := range []struct {
		key     string
		counter uint32
		nonce   string
		want    string
	}{
		{upwards, 1, "000000090000004a00000000", "10f1e7e4d13b5915500fdd1fa32071c4c7d1f4c733c068030422aa9ac3d46c4ed2826446079faa0914c2d705d98b02a2b5129cd1de164eb9cbd083e8a2503c4e"},
		{noughts, 0, noughts[:24], "76b8e0ada0f13d90405d6ae55386bd28bdd219b8a08ded1aa836efcc8b770dc7da41597c5157488d7724e03fb8d84a376a43b8f41518a11cc387b669b2ee6586"},
		{noughts, 1, noughts[:24], "9f07e7be5551387a98ba977c732d080dcb0f29a048e3656912c6533e32ee7aed29b721769ce64e43d57133b074d839d531ed1f28510afb45ace10a1f4b794d6f"},
		{noughts[:63] + "1", 1, noughts[:24], "3aeb5224ecf849929b9d828db1ced4dd832025e8018b8160b82284f3c949aa5a8eca00bbb4a73bdad192b5c42f73f2fd4e273644c8b36125a64addeb006c13a0"},
		{"00ff" + noughts[4:], 2, noughts[:24], "72d54dfbf12ec44b362692df94137f328fea8da73990265ec1bbbea1ae9af0ca13b25aa26cb4a648cb9b9d1be65b2c0924a66c54d545ec1b7374f4872e99f096"},
		{noughts, 0, noughts[:23] + "2", "c2c64d378cd536374ae204b9ef933fcd1a8b2288b3dfa49672ab765b54ee27c78a970e0e955c14f3a88e741b97c286f75f8fc299e8148362fa198a39531bed6d"},
		{ones, 0, ones[:24], "d6e63495eafed7fc3bf8e7c419fa77be8234a6a49df517ebab06c8f65d9f7a17d3a64d4b97c911e6995b65c79336220cb63b703e25d3d45f5fee90a37bbe0535"},
		{ones, 0xffffffff, ones[:24], "d72b21cfa4b6b0c41d61f62b8a11159c6a4f63bc56c2035796c7ad37811121bbec56d54a530f3a933dd28a50feb23bfaf64f405be985f3718bdf4683e96be749"},
	} {
		got := chacha.Block(api.Key(sample.Hex(x.key)), x.counter, api.Nonce(sample.Hex(x.nonce)))
		if !bytes.Equal(got[:], sample.Hex(x.want)) {
			t.Errorf("of %s, %x, %s: %x", x.key, x.counter, x.nonce, got)
		}
	}
}

// P4.2: against the slow reckoning.
func TestBlockRowByRow(t *testing.T) {
	for _, s := range settings() {
		if got := chacha.Block(s.key, s.counter, s.nonce); !bytes.Equal(got[:], slowBlock(s)) {
			t.Errorf("of %x: %x", s, got)
		}
	}
}

// P4.2: each bit of the key, the counter and the nonce counts, and stands where it should.
func TestBlockHangsOnEachBit(t *testing.T) {
	seen := map[[64]byte]setting{}
	look := func(s setting) {
		got := chacha.Block(s.key, s.counter, s.nonce)
		if other, ok := seen[got]; ok {
			t.Errorf("of %x and %x: the same", other, s)
		}
		seen[got] = s
		if !bytes.Equal(got[:], slowBlock(s)) {
			t.Errorf("of %x: %x", s, got)
		}
	}
	look(setting{})
	for bit := range 256 {
		var s setting
		s.key[bit/8] = 1 << (bit % 8)
		look(s)
	}
	for bit := range 32 {
		look(setting{counter: 1 << bit})
	}
	for bit := range 96 {
		var s setting
		s.nonce[bit/8] = 1 << (bit % 8)
		look(s)
	}
}

// P4.3: the text of RFC 8439 (2.4.2).
func TestXorOfKnown(t *testing.T) {
	s := setting{api.Key(sample.Hex(upwards)), 1, api.Nonce{7: 0x4a}}
	want := "6e2e359a2568f98041ba0728dd0d6981e97e7aec1d4360c20a27afccfd9fae0b" +
		"f91b65c5524733ab8f593dabcd62b3571639d624e65152ab8f530c359f0861d8" +
		"07ca0dbf500d6a6156a38e088a22b65e52bc514d16ccf806818ce91ab7793736" +
		"5af90bbf74a35be6b40b8eedf2785e42874d"
	if got := s.xor([]byte(sunscreen)); !bytes.Equal(got, sample.Hex(want)) {
		t.Errorf("%x", got)
	}
}

// P4.3: of no bytes there are none.
func TestXorOfNone(t *testing.T) {
	for _, s := range settings() {
		if a, b := s.xor(nil), s.xor([]byte{}); len(a) != 0 || len(b) != 0 {
			t.Errorf("of %x: %x, %x", s, a, b)
		}
	}
}

// P4.3: over noughts it is one block behind the other; behind the last counter comes 0.
func TestXorGoesOnFromTheLastCounter(t *testing.T) {
	key, nonce := api.Key(sample.Hex(upwards)), api.Nonce(sample.Hex(ones)[:12])
	var want []byte
	for _, counter := range []uint32{0xfffffffe, 0xffffffff, 0, 1} {
		block := chacha.Block(key, counter, nonce)
		want = append(want, block[:]...)
	}
	for many := range len(want) + 1 {
		if got := chacha.Xor(key, 0xfffffffe, nonce, make([]byte, many)); !bytes.Equal(got, want[:many]) {
			t.Errorf("%d noughts: %x", many, got)
		}
	}
}

// P4.3: texts of all lengths that matter, against the slow reckoning.
func TestXorByteByByte(t *testing.T) {
	for i, s := range settings() {
		for _, many := range lengths {
			text := sample.Drawn(uint64(i+1000), many)
			if got := s.xor(text); !bytes.Equal(got, slowXor(s, text)) {
				t.Errorf("of %x, %d bytes: %x", s, many, got)
			}
		}
	}
}

// P4.3: what was handed in stays as it was, with the room behind it; what is answered is new memory.
func TestXorLeavesItsText(t *testing.T) {
	s := setting{api.Key(sample.Hex(upwards)), 0xffffffff, api.Nonce{7: 0x4a}}
	for _, many := range lengths {
		whole := sample.Drawn(5, many+200)
		kept := bytes.Clone(whole)
		got := s.xor(whole[:many])
		again := s.xor(whole[:many])
		if !bytes.Equal(whole, kept) {
			t.Errorf("%d bytes: what was handed in, or what is behind it, is changed", many)
		}
		want := bytes.Clone(again)
		for i := range got {
			got[i] ^= 0xff
		}
		_ = append(got, sample.Drawn(6, 200)...)
		if !bytes.Equal(whole, kept) {
			t.Errorf("%d bytes: the answer shares memory with the text", many)
		}
		if !bytes.Equal(again, want) {
			t.Errorf("%d bytes: two answers share memory", many)
		}
		clear(whole)
		if !bytes.Equal(again, want) {
			t.Errorf("%d bytes: the text is kept in the answer", many)
		}
	}
}

// P4.4: Xor of Xor is the text, and Xor itself is not.
func TestXorTwice(t *testing.T) {
	for i, s := range settings() {
		for _, many := range lengths {
			for _, text := range [][]byte{sample.Drawn(uint64(i), many), make([]byte, many), bytes.Repeat([]byte{0xff}, many)} {
				once := s.xor(text)
				if len(once) != many || many >= 63 && bytes.Equal(once, text) {
					t.Errorf("of %x, %d bytes: %x", s, many, once)
				}
				if got := s.xor(once); !bytes.Equal(got, text) {
					t.Errorf("twice of %x, %d bytes: %x", s, many, got)
				}
			}
		}
	}
}

// P4.4: what Xor gives of the first bytes is the first of what it gives, wherever the text is cut.
func TestXorOfTheFirstBytes(t *testing.T) {
	for i, s := range settings() {
		text := sample.Drawn(uint64(i), 200)
		whole := s.xor(text)
		for cut := range len(text) + 1 {
			if got := s.xor(text[:cut]); !bytes.Equal(got, whole[:cut]) {
				t.Errorf("of %x, cut at %d: %x, not %x", s, cut, got, whole[:cut])
			}
		}
	}
}

func BenchmarkBlock(b *testing.B) {
	key := api.Key(sample.Hex(upwards))
	for b.Loop() {
		block := chacha.Block(key, 1, api.Nonce{})
		key[0] = block[0]
	}
}

func BenchmarkXor(b *testing.B) {
	s, text := setting{counter: 1}, sample.Drawn(1, api.MaxRecord)
	b.SetBytes(int64(len(text)))
	for b.Loop() {
		s.xor(text)
	}
}
