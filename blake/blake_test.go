package blake_test

import (
	"bytes"
	"crypto/hmac"
	"encoding/binary"
	"hash"
	"math"
	"math/big"
	"slices"
	"strings"
	"testing"

	"sheave/api"
	"sheave/blake"
	"sheave/sample"
)

// lengths are those of texts at which a piece begins or ends, or nearly, and some beyond.
var lengths = []int{0, 1, 63, 64, 65, 127, 128, 129, 200, 256}

// sumKeys and macKeys are the lengths of keys that matter to Sum and to Mac.
var (
	sumKeys = []int{0, 1, 2, 16, 31, 32}
	macKeys = []int{0, 1, 31, 32, 33, 62, 63, 64, 65, 127, 128, 129, 300}
)

// orders are the rows in which RFC 7693 (2.7) has the words of a piece, a digit each.
var orders = []string{
	"0123456789abcdef", "ea489fd61c02b753", "b8c052fdae367194", "7931dcbe265a40f8", "905724afe1bc683d",
	"2c6a0b834d75fe19", "c51fed4a0763928b", "db7ec13950f4862a", "6fe9b308c2d714a5", "a2847615fb9e3cd0",
}

// counted are the bytes 0, 1, 2 and so on.
func counted(many int) []byte {
	b := make([]byte, many)
	for i := range b {
		b[i] = byte(i)
	}
	return b
}

// rooted are the first 32 bits behind the point of the square roots of the first eight primes: where RFC 7693 takes IV from.
func rooted() [8]uint32 {
	var iv [8]uint32
	for i, prime := range []int64{2, 3, 5, 7, 11, 13, 17, 19} {
		n := new(big.Int).Lsh(big.NewInt(prime), 64)
		iv[i] = uint32(n.Sqrt(n).Uint64())
	}
	return iv
}

func right(x uint32, by int) uint32 { return x>>by | x<<(32-by) }

func slowMix(v []uint32, a, b, c, d int, x, y uint32) {
	v[a] += v[b] + x
	v[d] = right(v[d]^v[a], 16)
	v[c] += v[d]
	v[b] = right(v[b]^v[c], 12)
	v[a] += v[b] + y
	v[d] = right(v[d]^v[a], 8)
	v[c] += v[d]
	v[b] = right(v[b]^v[c], 7)
}

func slowPress(h, m []uint32, t uint64, last bool) {
	iv := rooted()
	v := append(slices.Clone(h), iv[:]...)
	v[12] ^= uint32(t % (1 << 32))
	v[13] ^= uint32(t / (1 << 32))
	if last {
		v[14] ^= 0xffffffff
	}
	for _, order := range orders {
		at := func(i int) uint32 { return m[strings.IndexByte(orders[0], order[i])] }
		for i := range 4 {
			slowMix(v, i, 4+i, 8+i, 12+i, at(2*i), at(2*i+1))
		}
		for i := range 4 {
			slowMix(v, i, 4+(i+1)%4, 8+(i+2)%4, 12+(i+3)%4, at(8+2*i), at(8+2*i+1))
		}
	}
	for i := range h {
		h[i] ^= v[i] ^ v[i+8]
	}
}

// slowSum lays the whole text out ahead of pressing it.
func slowSum(key []byte, size int, b []byte) []byte {
	text := bytes.Clone(b)
	if len(key) > 0 {
		text = slices.Concat(key, make([]byte, 64-len(key)), b)
	}
	count := len(text)
	pieces := max(1, (count+63)/64)
	text = append(text, make([]byte, 64*pieces-count)...)
	iv := rooted()
	h := iv[:]
	h[0] ^= 0x01010000 + 256*uint32(len(key)) + uint32(size)
	for p := range pieces {
		m := make([]uint32, 16)
		for i := range m {
			m[i] = binary.LittleEndian.Uint32(text[64*p+4*i:])
		}
		slowPress(h, m, uint64(min(64*p+64, count)), p == pieces-1)
	}
	var out []byte
	for _, w := range h {
		out = binary.LittleEndian.AppendUint32(out, w)
	}
	return out[:size]
}

func sum(t *testing.T, key []byte, size int, b []byte) []byte {
	t.Helper()
	got, err := blake.Sum(key, size, b)
	if err != api.OK || len(got) != size {
		t.Errorf("of %x, %d, %x: %x, error %d", key, size, b, got, err)
	}
	return got
}

// P6.1: by the key 00 to 1f, and without one: texts 00, 01 and so on, from the vectors that BLAKE2s was published with.
func TestSumOfKnown(t *testing.T) {
	for _, x := range []struct {
		many        int
		keyed, bare string
	}{
		{0, "48a8997da407876b3d79c0d92325ad3b89cbb754d86ab71aee047ad345fd2c49", "69217a3079908094e11121d042354a7c1f55b6482ca1a51e1b250dfd1ed0eef9"},
		{1, "40d15fee7c328830166ac3f918650f807e7e01e177258cdc0a39b11f598066f1", "e34d74dbaf4ff4c6abd871cc220451d2ea2648846c7757fbaac82fe51ad64bea"},
		{63, "c65382513f07460da39833cb666c5ed82e61b9e998f4b0c4287cee56c3cc9bcd", "e57cb79487dd57902432b250733813bd96a84efce59f650fac26e6696aefafc3"},
		{64, "8975b0577fd35566d750b362b0897a26c399136df07bababbde6203ff2954ed4", "56f34e8b96557e90c1f24b52d0c89d51086acf1b00f634cf1dde9233b8eaaa3e"},
		{65, "21fe0ceb0052be7fb0f004187cacd7de67fa6eb0938d927677f2398c132317a8", "1b53ee94aaf34e4b159d48de352c7f0661d0a40edff95a0b1639b4090e974472"},
		{127, "ddbfea75cc467882eb3483ce5e2e756a4f4701b76b445519e89f22d60fa86e06", "f18417b39d617ab1c18fdf91ebd0fc6d5516bb34cf39364037bce81fa04cecb1"},
		{128, "0c311f38c35a4fb90d651c289d486856cd1413df9b0677f53ece2cd9e477c60a", "1fa877de67259d19863a2a34bcc6962a2b25fcbf5cbecd7ede8f1fa36688a796"},
		{129, "46a73a8dd3e70f59d3942c01df599def783c9da82fd83222cd662b53dce7dbdf", "5bd169e67c82c2c2e98ef7008bdf261f2ddf30b1c00f9e7f275bb3e8a28dc9a2"},
		{255, "3fb735061abc519dfe979e54c1ee5bfad0a9d858b3315bad34bde999efd724dd", "f03f5789d3336b80d002d59fdf918bdb775b00956ed5528e86aa994acb38fe2d"},
	} {
		text := counted(x.many)
		if got := sum(t, counted(32), 32, text); !bytes.Equal(got, sample.Hex(x.keyed)) {
			t.Errorf("%d bytes, with a key: %x", x.many, got)
		}
		if got := sum(t, nil, 32, text); !bytes.Equal(got, sample.Hex(x.bare)) {
			t.Errorf("%d bytes, without one: %x", x.many, got)
		}
	}
}

// P6.1: the test of itself that RFC 7693 (appendix E) has: hashes of several sizes, with and without keys, hashed together.
func TestSumOfSums(t *testing.T) {
	sequence := func(many, seed int) []byte {
		a, b := 0xdead4bad*uint32(seed), uint32(1)
		out := make([]byte, many)
		for i := range out {
			a, b = b, a+b
			out[i] = byte(b >> 24)
		}
		return out
	}
	var all []byte
	for _, size := range []int{16, 20, 28, 32} {
		for _, many := range []int{0, 3, 64, 65, 255, 1024} {
			text := sequence(many, many)
			all = append(all, sum(t, nil, size, text)...)
			all = append(all, sum(t, sequence(size, size), size, text)...)
		}
	}
	want := sample.Hex("6a411f08ce25adcdfb02aba641451cec53c598b24f4fc787fbdc88797f4c1dfe")
	if got := sum(t, nil, 32, all); !bytes.Equal(got, want) {
		t.Errorf("%x", got)
	}
}

// P6.1: every size, with keys of every length, against what Python's hashlib reckons: its answers hashed together.
func TestSumOfAllSizes(t *testing.T) {
	var all []byte
	for size := 1; size <= 32; size++ {
		for keyed := range 33 {
			for _, many := range lengths {
				all = append(all, sum(t, sample.Drawn(1, keyed), size, sample.Drawn(2, many))...)
			}
		}
	}
	want := sample.Hex("f4b7f340a52ea6411563572599c4fe7e23c6f03c2e4f330341108c837e91e63e")
	if got := sum(t, nil, 32, all); !bytes.Equal(got, want) {
		t.Errorf("%x", got)
	}
}

// P6.1: keys and texts of noughts, of ones and without a rule, against the slow reckoning.
func TestSumPieceByPiece(t *testing.T) {
	for _, size := range []int{1, 2, 16, 31, 32} {
		for _, keyed := range sumKeys {
			for _, key := range sample.Kinds(keyed) {
				for _, many := range lengths {
					for _, text := range sample.Kinds(many) {
						if got, want := sum(t, key, size, text), slowSum(key, size, text); !bytes.Equal(got, want) {
							t.Errorf("of %x, %d, %x: %x, not %x", key, size, text, got, want)
						}
					}
				}
			}
		}
	}
}

// P6.1: texts of all lengths up to some pieces, with a key and without one.
func TestSumOfAllLengths(t *testing.T) {
	key, long := sample.Drawn(3, 32), sample.Drawn(4, 400)
	for many := range long {
		for _, k := range [][]byte{nil, key} {
			if got, want := sum(t, k, 32, long[:many]), slowSum(k, 32, long[:many]); !bytes.Equal(got, want) {
				t.Errorf("%d bytes, by %x: %x, not %x", many, k, got, want)
			}
		}
	}
}

// P6.1: wrong sizes and keys that are too long, each alone and both, with texts and without.
func TestSumTellsErrors(t *testing.T) {
	wrong := func(keyed, size int) {
		for _, b := range [][]byte{nil, {}, []byte("abc"), make([]byte, 129)} {
			if got, err := blake.Sum(make([]byte, keyed), size, b); err != api.ErrArg || got != nil {
				t.Errorf("a key of %d bytes, size %d, a text of %d: %x, error %d", keyed, size, len(b), got, err)
			}
		}
	}
	for _, size := range []int{math.MinInt, -256, -224, -32, -1, 0, 33, 34, 64, 255, 256, 257, 288, 1<<32 + 1, math.MaxInt} {
		for _, keyed := range []int{0, 1, 31, 32, 33, 64} {
			wrong(keyed, size)
		}
	}
	for _, keyed := range []int{33, 34, 63, 64, 65, 128, 256, 288} {
		for _, size := range []int{1, 31, 32} {
			wrong(keyed, size)
		}
	}
}

// P6.1: what stands right at the edges is no error.
func TestSumAtItsEdges(t *testing.T) {
	for _, size := range []int{1, 31, 32} {
		for _, keyed := range []int{0, 1, 31, 32} {
			sum(t, make([]byte, keyed), size, nil)
			sum(t, make([]byte, keyed), size, []byte("abc"))
		}
	}
}

// P6.1: a key and a text that are nil are the same as those that are empty.
func TestSumOfNone(t *testing.T) {
	for _, x := range [][2][]byte{{nil, nil}, {nil, {}}, {{}, nil}, {{}, {}}} {
		if got := sum(t, x[0], 32, x[1]); !bytes.Equal(got, sum(t, nil, 32, nil)) {
			t.Errorf("%x", got)
		}
	}
}

// P6.1: noughts at a text's end or a key's count, and so does each bit of them.
func TestSumHangsOnKeyAndText(t *testing.T) {
	seen := map[string]string{}
	look := func(what string, key, text []byte) {
		got := string(sum(t, key, 32, text))
		if other, ok := seen[got]; ok {
			t.Errorf("%s, and %s of %x, %x: the same", other, what, key, text)
		}
		seen[got] = what
	}
	for many := range 200 {
		look("noughts", nil, make([]byte, many))
		look("noughts by a key", []byte{1}, make([]byte, many))
	}
	for keyed := 1; keyed <= 32; keyed++ {
		look("a key of noughts", make([]byte, keyed), []byte("abc"))
	}
	for bit := range 32 * 8 {
		key := make([]byte, 32)
		key[bit/8] = 1 << (bit % 8)
		look("a key with one bit", key, []byte("abc"))
	}
	for bit := range 129 * 8 {
		text := make([]byte, 129)
		text[bit/8] = 1 << (bit % 8)
		look("a text with one bit", nil, text)
		look("a text with one bit by a key", []byte{1}, text)
	}
}

// P6.1: a shorter hash is not the beginning of a longer one.
func TestSumHangsOnTheSize(t *testing.T) {
	for _, many := range lengths {
		text := sample.Drawn(5, many)
		for size := 8; size < 32; size++ {
			if got := sum(t, nil, size, text); bytes.Equal(got, sum(t, nil, size+1, text)[:size]) {
				t.Errorf("%d bytes, size %d: %x", many, size, got)
			}
		}
	}
}

// P6.1: what was handed in stays as it was, with the room behind it; what was answered is the caller's own.
func TestSumLeavesKeyAndText(t *testing.T) {
	for _, keyed := range sumKeys {
		for _, many := range lengths {
			key, text := sample.Drawn(6, keyed+70), sample.Drawn(7, many+70)
			keptKey, keptText := bytes.Clone(key), bytes.Clone(text)
			got := sum(t, key[:keyed], 20, text[:many])
			kept := bytes.Clone(got)
			again := sum(t, key[:keyed], 20, text[:many])
			for i := range got[:cap(got)] {
				got[:cap(got)][i] ^= 0xff
			}
			if !bytes.Equal(again, kept) {
				t.Errorf("%d and %d bytes: a second answer is changed with the first, or is another", keyed, many)
			}
			if !bytes.Equal(key, keptKey) || !bytes.Equal(text, keptText) {
				t.Errorf("%d and %d bytes: what was handed in, or what is behind it, is changed", keyed, many)
			}
			clear(key)
			clear(text)
			if later := sum(t, keptKey[:keyed:keyed], 20, keptText[:many:many]); !bytes.Equal(again, kept) || !bytes.Equal(later, kept) {
				t.Errorf("%d and %d bytes: %x, and later %x", keyed, many, kept, later)
			}
		}
	}
}

// P6.1: a key and a text may lie in one memory.
func TestSumOfWhatOverlaps(t *testing.T) {
	both := sample.Drawn(8, 200)
	if got, want := sum(t, both[:32], 32, both), slowSum(bytes.Clone(both[:32]), 32, bytes.Clone(both)); !bytes.Equal(got, want) {
		t.Errorf("%x, not %x", got, want)
	}
}

// P6.2: the chapter's examples of Hash; the first is that of RFC 7693 (appendix B).
func TestHashOfKnown(t *testing.T) {
	for text, want := range map[string]string{
		"abc": "508c5e8c327c14e2e1a72ba34eeb452f37458b209ed63a294d999b4c86675982",
		"":    "69217a3079908094e11121d042354a7c1f55b6482ca1a51e1b250dfd1ed0eef9",
	} {
		if got := blake.Hash([]byte(text)); got != api.Key(sample.Hex(want)) {
			t.Errorf("%q: %x", text, got)
		}
	}
	if blake.Hash(nil) != blake.Hash([]byte{}) {
		t.Error("nil and empty differ")
	}
}

// P6.2: Hash is Sum of no key and 32.
func TestHashIsSum(t *testing.T) {
	for _, many := range lengths {
		for _, text := range sample.Kinds(many) {
			got := blake.Hash(text)
			if want := sum(t, nil, 32, text); !bytes.Equal(got[:], want) {
				t.Errorf("of %x: %x, not %x", text, got, want)
			}
		}
	}
}

// P6.2: texts of all lengths up to some pieces, against what Python's hashlib reckons: its answers hashed together.
func TestHashOfAllLengths(t *testing.T) {
	var all []byte
	for many := range 400 {
		got := blake.Hash(sample.Drawn(5, many))
		all = append(all, got[:]...)
	}
	if got := blake.Hash(all); got != api.Key(sample.Hex("f55efe6506570e250e583115d15ef115d1492945261fbf2eb923bd438789efd7")) {
		t.Errorf("%x", got)
	}
}

// P6.2: macs that Python's hashlib and openssl reckon alike, most by the keys and texts of RFC 4231.
func TestMacOfKnown(t *testing.T) {
	for _, x := range []struct{ key, text, want string }{
		{"", "", "eaf4bb25938f4d20e72656bbbc7a9bf63c0c18537333c35bdb67db1402661acd"},
		{"key", "The quick brown fox jumps over the lazy dog", "f93215bb90d4af4c3061cd932fb169fb8bb8a91d0b4022baea1271e1323cd9a0"},
		{strings.Repeat("\x0b", 20), "Hi There", "65a8b7c5cc9136d424e82c37e2707e74e913c0655b99c75f40edf387453a3260"},
		{"Jefe", "what do ya want for nothing?", "90b6281e2f3038c9056af0b4a7e763cae6fe5d9eb4386a0ec95237890c104ff0"},
		{strings.Repeat("\xaa", 20), strings.Repeat("\xdd", 50), "fcc4f59529502e34c3d8da3ffdab82966a2cb637ff5e9bd701135c2e9469e790"},
		{strings.Repeat("\xaa", 131), "Test Using Larger Than Block-Size Key - Hash Key First", "d23d79394f53d536a096e6514447eeaabb05ded01be32c1937da6a8f7103bc4e"},
	} {
		if got := blake.Mac([]byte(x.key), []byte(x.text)); got != api.Key(sample.Hex(x.want)) {
			t.Errorf("by %q of %q: %x", x.key, x.text, got)
		}
	}
}

// P6.2: by keys of all lengths up to beyond two pieces, against what Python's hashlib reckons: its answers hashed together.
func TestMacOfAllKeys(t *testing.T) {
	var all []byte
	for keyed := range 131 {
		for _, many := range lengths {
			got := blake.Mac(sample.Drawn(3, keyed), sample.Drawn(4, many))
			all = append(all, got[:]...)
		}
	}
	if got := blake.Hash(all); got != api.Key(sample.Hex("19287881b1d617e30559960bd73463178f66c8a837f439beda4b7a24be2e4371")) {
		t.Errorf("%x", got)
	}
}

// whole is the slow reckoning as the library's hmac takes a hash.
type whole struct{ bytes.Buffer }

func (w *whole) Sum(b []byte) []byte { return append(b, slowSum(nil, 32, w.Bytes())...) }
func (w *whole) Size() int           { return 32 }
func (w *whole) BlockSize() int      { return 64 }

// P6.2: keys and texts of noughts, of ones and without a rule, against the library's hmac over the slow reckoning.
func TestMacAgainstTheLibrary(t *testing.T) {
	for _, keyed := range macKeys {
		for _, key := range sample.Kinds(keyed) {
			for _, many := range lengths {
				text := sample.Drawn(9, many)
				h := hmac.New(func() hash.Hash { return new(whole) }, key)
				h.Write(text)
				if got, want := blake.Mac(key, text), h.Sum(nil); !bytes.Equal(got[:], want) {
					t.Errorf("by %x of %x: %x, not %x", key, text, got, want)
				}
			}
		}
	}
}

// P6.2: a key of more than 64 bytes counts as its hash, one of 64 or fewer as it is.
func TestMacByLongKeys(t *testing.T) {
	for _, keyed := range macKeys {
		key := sample.Drawn(10, keyed)
		short := blake.Hash(key)
		for _, many := range lengths {
			text := sample.Drawn(11, many)
			if same := blake.Mac(key, text) == blake.Mac(short[:], text); same != (keyed > 64) {
				t.Errorf("a key of %d bytes, a text of %d: the same as by its hash: %t", keyed, many, same)
			}
		}
	}
}

// P6.2: what was handed in stays as it was, with the room behind it, and what is behind it does not count.
func TestHashAndMacLeaveKeyAndText(t *testing.T) {
	for _, keyed := range macKeys {
		for _, many := range lengths {
			key, text := sample.Drawn(12, keyed+70), sample.Drawn(13, many+70)
			keptKey, keptText := bytes.Clone(key), bytes.Clone(text)
			mac, plain := blake.Mac(key[:keyed], text[:many]), blake.Hash(text[:many])
			if !bytes.Equal(key, keptKey) || !bytes.Equal(text, keptText) {
				t.Errorf("%d and %d bytes: what was handed in, or what is behind it, is changed", keyed, many)
			}
			clear(key)
			clear(text)
			if mac != blake.Mac(keptKey[:keyed:keyed], keptText[:many:many]) || plain != blake.Hash(keptText[:many:many]) {
				t.Errorf("%d and %d bytes: another answer without room behind them", keyed, many)
			}
		}
	}
}

// P6.3: noughts behind a key of less than 64 bytes, up to 64 of them in all, do not change its macs.
func TestMacByKeysWithNoughtsBehind(t *testing.T) {
	for _, keyed := range []int{0, 1, 2, 31, 32, 33, 62, 63} {
		for _, key := range sample.Kinds(keyed) {
			for _, many := range lengths {
				text := sample.Drawn(14, many)
				want := blake.Mac(key, text)
				for more := 1; keyed+more <= 64; more++ {
					if got := blake.Mac(append(bytes.Clone(key), make([]byte, more)...), text); got != want {
						t.Errorf("by %x and %d noughts of %x: %x, not %x", key, more, text, got, want)
					}
				}
			}
		}
	}
}

// P6.3: other bytes behind a key change its macs, and so do noughts ahead of it.
func TestMacHangsOnTheKey(t *testing.T) {
	text := []byte("abc")
	for _, keyed := range []int{1, 31, 32, 33, 62, 63} {
		key := sample.Drawn(15, keyed)
		mac := blake.Mac(key, text)
		if blake.Mac(append(bytes.Clone(key), 1), text) == mac || blake.Mac(append([]byte{0}, key...), text) == mac {
			t.Errorf("by %x: the same with a byte more", key)
		}
		for bit := range keyed * 8 {
			other := bytes.Clone(key)
			other[bit/8] ^= 1 << (bit % 8)
			if blake.Mac(other, text) == mac {
				t.Errorf("by %x: bit %d does not count", key, bit)
			}
		}
	}
}

func BenchmarkHash(b *testing.B) {
	text := sample.Drawn(16, 1024)
	b.SetBytes(int64(len(text)))
	for b.Loop() {
		h := blake.Hash(text)
		text[0] = h[0]
	}
}

func BenchmarkMac(b *testing.B) {
	key, text := sample.Drawn(17, 32), sample.Drawn(18, api.MaxMessage)
	for b.Loop() {
		h := blake.Mac(key, text)
		key[0] = h[0]
	}
}
