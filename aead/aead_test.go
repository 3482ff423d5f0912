package aead_test

import (
	"bytes"
	"crypto/sha256"
	"encoding/binary"
	"slices"
	"strings"
	"testing"

	"sheave/aead"
	"sheave/api"
	"sheave/chacha"
	"sheave/poly"
	"sheave/sample"
)

const (
	sunscreen = "Ladies and Gentlemen of the class of '99: If I could offer you only one tip for the future, sunscreen would be it."
	drafts    = "Internet-Drafts are draft documents valid for a maximum of six months and may be updated, replaced, or obsoleted by other documents at any time. It is inappropriate to use Internet-Drafts as reference material or to cite them other than as /“work in progress./”"
)

// besides and texts are the lengths at which a piece of the tag begins or ends, or nearly; of texts a block's too.
var (
	besides = []int{0, 1, 15, 16, 17, 31, 32, 33}
	texts   = []int{0, 1, 15, 16, 17, 31, 32, 33, 63, 64, 65, 127, 128, 129}
)

// setting is by what a text is sealed.
type setting struct {
	key   api.Key
	nonce api.Nonce
}

func (s setting) seal(beside, text []byte) []byte { return aead.Seal(s.key, s.nonce, beside, text) }

func (s setting) open(beside, sealed []byte) ([]byte, api.Errno) {
	return aead.Open(s.key, s.nonce, beside, sealed)
}

// opens tells what does not open as the text it should.
func (s setting) opens(t *testing.T, beside, sealed, text []byte) {
	t.Helper()
	if got, err := s.open(beside, sealed); err != api.OK || !bytes.Equal(got, text) {
		t.Errorf("by %x, beside %x, of %x: %x, error %d", s, beside, sealed, got, err)
	}
}

// refuses tells what is not refused, by that error and without a text.
func (s setting) refuses(t *testing.T, beside, sealed []byte, want api.Errno) {
	t.Helper()
	if got, err := s.open(beside, sealed); err != want || got != nil {
		t.Errorf("by %x, beside %x, of %x: %x, error %d", s, beside, sealed, got, err)
	}
}

func drawn(seed uint64) setting {
	return setting{api.Key(sample.Drawn(seed, 32)), api.Nonce(sample.Drawn(seed+100, 12))}
}

func ones() setting {
	b := bytes.Repeat([]byte{0xff}, 32)
	return setting{api.Key(b), api.Nonce(b[:12])}
}

// settings are of noughts, of ones, of both, and without a rule.
func settings() []setting {
	l := []setting{{}, ones(), {key: ones().key}, {nonce: ones().nonce}}
	for seed := range uint64(4) {
		l = append(l, drawn(seed))
	}
	return l
}

// inPieces are bytes with noughts behind, laid one by one until they are a multiple of 16.
func inPieces(b []byte) []byte {
	b = bytes.Clone(b)
	for len(b)%16 != 0 {
		b = append(b, 0)
	}
	return b
}

// slowSeal takes each byte of the stream from a block of its own, and writes the tag's text as the chapter tells it.
func slowSeal(s setting, beside, text []byte) []byte {
	var hidden []byte
	for i := range text {
		block := chacha.Block(s.key, uint32(1+i/64), s.nonce)
		hidden = append(hidden, text[i]^block[i%64])
	}
	all := append(inPieces(beside), inPieces(hidden)...)
	all = binary.LittleEndian.AppendUint64(all, uint64(len(beside)))
	all = binary.LittleEndian.AppendUint64(all, uint64(len(text)))
	block := chacha.Block(s.key, 0, s.nonce)
	tag := poly.Sum(api.Key(block[:32]), all)
	return append(hidden, tag[:]...)
}

// P7.1 and P7.2: the chapter's example, which is that of RFC 8439 (2.8.2), that of its A.5, and some by Python's cryptography.
func TestOfKnown(t *testing.T) {
	for i, x := range []struct {
		by           setting
		beside, text string
		want         string
	}{
		{
			setting{api.Key(sample.Hex("808182838485868788898a8b8c8d8e8f909192939495969798999a9b9c9d9e9f")), api.Nonce(sample.Hex("070000004041424344454647"))},
			string(sample.Hex("50515253c0c1c2c3c4c5c6c7")), sunscreen,
			"d31a8d34648e60db7b86afbc53ef7ec2a4aded51296e08fea9e2b5a736ee62d63dbea45e8ca9671282fafb69da92728b1a71de0a9e060b2905d6a5b67ecd3b36" +
				"92ddbd7f2d778b8c9803aee328091b58fab324e4fad675945585808b4831d7bc3ff4def08e4b7a9de576d26586cec64b6116" +
				"1ae10b594f09e26a7e902ecbd0600691",
		},
		{
			setting{api.Key(sample.Hex("1c9240a5eb55d38af333888604f6b5f0473917c1402b80099dca5cbc207075c0")), api.Nonce(sample.Hex("000000000102030405060708"))},
			string(sample.Hex("f33388860000000000004e91")), drafts,
			"64a0861575861af460f062c79be643bd5e805cfd345cf389f108670ac76c8cb24c6cfc18755d43eea09ee94e382d26b0bdb7b73c321b0100d4f03b7f355894cf" +
				"332f830e710b97ce98c8a84abd0b948114ad176e008d33bd60f982b1ff37c8559797a06ef4f0ef61c186324e2b3506383606907b6a7c02b0f9f6157b53c867e4" +
				"b9166c767b804d46a59b5216cde7a4e99040c5a40433225ee282a1b0a06c523eaf4534d7f83fa1155b0047718cbc546a0d072b04b3564eea1b422273f548271a" +
				"0bb2316053fa76991955ebd63159434ecebb4e466dae5a1073a6727627097a1049e617d91d361094fa68f0ff77987130305beaba2eda04df997b714d6c6f2c29" +
				"a6ad5cb4022b02709b" + "eead9d67890cbb22392336fea1851f38",
		},
		{setting{}, "", "", "4eb972c9a8fb3a1b382bb4d36f5ffad1"},
		{setting{}, "abc", "", "e75e31de88e480eed5423753250b17a0"},
		{ones(), "", "", "0b5528ab3ff425fbf1fce9fcfb979029"},
		{ones(), "", "abc", "bc4523" + "6d373a29d1b6a1bb3800a7b4a57529e6"},
	} {
		want := sample.Hex(x.want)
		if got := x.by.seal([]byte(x.beside), []byte(x.text)); !bytes.Equal(got, want) {
			t.Errorf("row %d: %x", i, got)
		}
		x.by.opens(t, []byte(x.beside), want, []byte(x.text))
	}
}

// P7.1: all lengths up to some pieces and blocks, against what Python's cryptography seals: its answers hashed together.
func TestSealOfAllLengths(t *testing.T) {
	h := sha256.New()
	for b := range 50 {
		for m := range 200 {
			key, nonce := api.Key(sample.Drawn(uint64(b), 32)), api.Nonce(sample.Drawn(uint64(m), 12))
			h.Write(aead.Seal(key, nonce, sample.Drawn(1, b), sample.Drawn(2, m)))
		}
	}
	if got := h.Sum(nil); !bytes.Equal(got, sample.Hex("ed492da36530f6984ac54917ddc17c48b3f17bf195a049bc8050b0c397ca22e8")) {
		t.Errorf("%x", got)
	}
}

// P7.1: longer ones, whose lengths need more than one byte, against the same.
func TestSealOfLong(t *testing.T) {
	lengths := []int{4096, 65535, 65536, 65537}
	for many := 1998; many >= 0; many -= 37 {
		lengths = append(lengths, many)
	}
	slices.Sort(lengths)
	key, nonce := api.Key(sample.Drawn(3, 32)), api.Nonce(sample.Drawn(4, 12))
	h := sha256.New()
	for _, many := range lengths {
		h.Write(aead.Seal(key, nonce, sample.Drawn(6, many), sample.Drawn(5, many)))
	}
	if got := h.Sum(nil); !bytes.Equal(got, sample.Hex("221e5e335ecff37a51ef87ea6afa80d98d995bee0157b9c5f3c33d5b8ff0e551")) {
		t.Errorf("%x", got)
	}
}

// P7.1: every setting with what is beside and texts of all lengths that matter, against the slow reckoning.
func TestSealAsTheChapterTellsIt(t *testing.T) {
	for _, s := range settings() {
		for _, b := range besides {
			for i, beside := range sample.Kinds(b) {
				for _, m := range texts {
					text := sample.Kinds(m)[(i+m)%3]
					if got, want := s.seal(beside, text), slowSeal(s, beside, text); !bytes.Equal(got, want) {
						t.Errorf("by %x, beside %x, of %x: %x, not %x", s, beside, text, got, want)
					}
				}
			}
		}
	}
}

// P7.1: nil and empty are the same.
func TestSealOfNone(t *testing.T) {
	for _, s := range settings() {
		want := s.seal(nil, nil)
		for _, x := range [][2][]byte{{nil, {}}, {{}, nil}, {{}, {}}} {
			if got := s.seal(x[0], x[1]); len(got) != 16 || !bytes.Equal(got, want) {
				t.Errorf("by %x: %x, not %x", s, got, want)
			}
		}
	}
}

// P7.1: the tag hangs on each bit of the key, the nonce, what is beside and the text, on noughts behind the last two, and
// on where the one ends and the other begins.
func TestTagHangsOnAll(t *testing.T) {
	seen := map[api.Tag]string{}
	look := func(what string, s setting, beside, text []byte) {
		sealed := s.seal(beside, text)
		tag := api.Tag(sealed[len(text):])
		if other, ok := seen[tag]; ok {
			t.Errorf("%s and %s: the same tag", other, what)
		}
		seen[tag] = what
	}
	s, beside, text := drawn(1), sample.Drawn(2, 33), sample.Drawn(3, 70)
	look("all as it is", s, beside, text)
	for bit := range 256 {
		look("a bit of the key", setting{api.Key(sample.Turned(s.key[:], bit)), s.nonce}, beside, text)
	}
	for bit := range 96 {
		look("a bit of the nonce", setting{s.key, api.Nonce(sample.Turned(s.nonce[:], bit))}, beside, text)
	}
	for bit := range 8 * len(beside) {
		look("a bit of what is beside", s, sample.Turned(beside, bit), text)
	}
	for bit := range 8 * len(text) {
		look("a bit of the text", s, beside, sample.Turned(text, bit))
	}
	for more := 1; more < 40; more++ {
		look("noughts behind what is beside", s, append(bytes.Clone(beside), make([]byte, more)...), text)
		look("noughts behind the text", s, beside, append(bytes.Clone(text), make([]byte, more)...))
		look("noughts beside, and no text", s, make([]byte, more), nil)
		look("noughts as a text, and none beside", s, nil, make([]byte, more))
	}
}

// P7.2: less than 16 bytes, whatever they are, with anything beside.
func TestOpenTellsShort(t *testing.T) {
	for _, s := range settings() {
		for _, b := range besides {
			beside := sample.Drawn(4, b)
			s.refuses(t, beside, nil, api.ErrShort)
			good := s.seal(beside, sample.Drawn(5, 20))
			bare := s.seal(beside, nil)
			for many := range 16 {
				for _, sealed := range append(sample.Kinds(many), good[:many], good[len(good)-many:], bare[:many]) {
					s.refuses(t, beside, sealed, api.ErrShort)
				}
			}
		}
	}
}

// P7.2: noughts, ones and others, of 16 bytes and more, that nobody sealed.
func TestOpenTellsForged(t *testing.T) {
	for _, s := range settings() {
		for _, b := range besides {
			beside := sample.Drawn(6, b)
			for _, m := range texts {
				for _, sealed := range sample.Kinds(m + 16) {
					s.refuses(t, beside, sealed, api.ErrForged)
				}
			}
		}
	}
}

// P7.2: the tag alone is what no text is sealed as; with one byte ahead of it there is a text of one byte.
func TestOpenOfTheShortest(t *testing.T) {
	for _, s := range settings() {
		for _, b := range besides {
			for _, beside := range sample.Kinds(b) {
				s.opens(t, beside, slowSeal(s, beside, nil), nil)
				for _, text := range sample.Kinds(1) {
					s.opens(t, beside, slowSeal(s, beside, text), text)
				}
			}
		}
	}
}

// P7.2: any bytes with their tag behind them open, as what the stream makes of them.
func TestOpenOfAnyWithItsTag(t *testing.T) {
	for _, s := range settings() {
		for _, b := range besides {
			for _, m := range texts {
				beside := sample.Drawn(7, b)
				for _, hidden := range sample.Kinds(m) {
					text := chacha.Xor(s.key, 1, s.nonce, hidden)
					sealed := slowSeal(s, beside, text)
					if !bytes.Equal(sealed[:m], hidden) {
						t.Fatalf("the slow reckoning hides %x as %x", text, sealed)
					}
					s.opens(t, beside, sealed, text)
				}
			}
		}
	}
}

// P7.2: what was sealed, cut anywhere or with something behind it, ahead of it, or changed in a bit.
func TestOpenOfChanged(t *testing.T) {
	s, beside := drawn(8), sample.Drawn(9, 20)
	for _, m := range texts {
		good := s.seal(beside, sample.Drawn(10, m))
		for cut := 16; cut < len(good); cut++ {
			s.refuses(t, beside, good[:cut], api.ErrForged)
			s.refuses(t, beside, good[len(good)-cut:], api.ErrForged)
		}
		for _, more := range []int{1, 15, 16, 17} {
			for _, b := range sample.Kinds(more) {
				s.refuses(t, beside, slices.Concat(good, b), api.ErrForged)
				s.refuses(t, beside, slices.Concat(b, good), api.ErrForged)
				s.refuses(t, beside, slices.Concat(good[:m], b, good[m:]), api.ErrForged)
			}
		}
		for bit := range 8 * len(good) {
			s.refuses(t, beside, sample.Turned(good, bit), api.ErrForged)
		}
	}
}

// P7.2: another key, another nonce, something else beside: each by one bit, or by bytes more or less.
func TestOpenByOthers(t *testing.T) {
	s := drawn(11)
	for _, b := range besides {
		for _, m := range []int{0, 1, 16, 65} {
			beside := sample.Drawn(12, b)
			good := s.seal(beside, sample.Drawn(13, m))
			for bit := range 256 {
				setting{api.Key(sample.Turned(s.key[:], bit)), s.nonce}.refuses(t, beside, good, api.ErrForged)
			}
			for bit := range 96 {
				setting{s.key, api.Nonce(sample.Turned(s.nonce[:], bit))}.refuses(t, beside, good, api.ErrForged)
			}
			for bit := range 8 * b {
				s.refuses(t, sample.Turned(beside, bit), good, api.ErrForged)
			}
			for cut := range b {
				s.refuses(t, beside[:cut], good, api.ErrForged)
			}
			for more := 1; more < 33; more++ {
				s.refuses(t, append(bytes.Clone(beside), make([]byte, more)...), good, api.ErrForged)
			}
		}
	}
}

// P7.2: bytes that are moved from what is beside to what was sealed, or back, though the row of them is the same.
func TestOpenOfMoved(t *testing.T) {
	s := drawn(14)
	for _, b := range []int{16, 32, 33} {
		beside := sample.Drawn(15, b)
		good := s.seal(beside, sample.Drawn(16, 64))
		all := slices.Concat(beside, good)
		for at := range len(all) - 16 {
			if at != b {
				s.refuses(t, all[:at], all[at:], api.ErrForged)
			}
		}
	}
}

// roomy is so many bytes with others in the room behind them, and all of them to look at later.
func roomy(seed uint64, many int) (b, whole []byte) {
	whole = sample.Drawn(seed, many+80)
	return whole[:many], whole
}

// P7.1: what was handed in stays as it was, with the room behind it; what was answered is the caller's own.
func TestSealLeavesWhatItIsGiven(t *testing.T) {
	s := drawn(17)
	kept := s
	for _, b := range besides {
		for _, m := range texts {
			beside, allBeside := roomy(18, b)
			text, allText := roomy(19, m)
			want := slowSeal(s, bytes.Clone(beside), bytes.Clone(text))
			got, again := s.seal(beside, text), s.seal(beside, text)
			for i := range got[:cap(got)] {
				got[:cap(got)][i] ^= 0xff
			}
			if !bytes.Equal(allBeside, sample.Drawn(18, b+80)) || !bytes.Equal(allText, sample.Drawn(19, m+80)) || s != kept {
				t.Errorf("%d and %d bytes: what was handed in, or what is behind it, is changed", b, m)
			}
			clear(allBeside)
			clear(allText)
			if !bytes.Equal(again, want) {
				t.Errorf("%d and %d bytes: the answer shares memory, or hangs on what is behind: %x, not %x", b, m, again, want)
			}
		}
	}
}

// P7.2: the same of Open, also where it refuses.
func TestOpenLeavesWhatItIsGiven(t *testing.T) {
	s := drawn(20)
	for _, b := range besides {
		for _, m := range texts {
			beside, allBeside := roomy(21, b)
			text := sample.Drawn(22, m)
			allSealed := append(s.seal(beside, text), sample.Drawn(23, 80)...)
			sealed, keptSealed := allSealed[:m+16], bytes.Clone(allSealed)
			got, err := s.open(beside, sealed)
			again, _ := s.open(beside, sealed)
			s.refuses(t, beside, allSealed, api.ErrForged)
			s.refuses(t, beside, sample.Turned(sealed, 8*m), api.ErrForged)
			s.refuses(t, beside, sealed[:15], api.ErrShort)
			if err != api.OK || !bytes.Equal(got, text) {
				t.Errorf("%d and %d bytes: %x, error %d", b, m, got, err)
			}
			for i := range got[:cap(got)] {
				got[:cap(got)][i] ^= 0xff
			}
			if !bytes.Equal(allBeside, sample.Drawn(21, b+80)) || !bytes.Equal(allSealed, keptSealed) {
				t.Errorf("%d and %d bytes: what was handed in, or what is behind it, is changed", b, m)
			}
			clear(allBeside)
			clear(allSealed)
			if !bytes.Equal(again, text) {
				t.Errorf("%d and %d bytes: the answer shares memory: %x", b, m, again)
			}
		}
	}
}

// P7.1 and P7.2: what is beside and the text may lie in one memory, one behind the other or one over the other.
func TestOfOneMemory(t *testing.T) {
	s := drawn(24)
	for _, b := range besides {
		for _, m := range texts {
			row := sample.Drawn(25, 200)
			for _, x := range [][2][]byte{{row[:b], row[b : b+m]}, {row[m : m+b], row[:m]}, {row[:b], row[:m]}} {
				want := slowSeal(s, bytes.Clone(x[0]), bytes.Clone(x[1]))
				if got := s.seal(x[0], x[1]); !bytes.Equal(got, want) {
					t.Errorf("%d and %d bytes: %x, not %x", b, m, got, want)
				}
			}
			text := bytes.Clone(row[b : b+m])
			copy(row[b:], s.seal(row[:b], row[b:b+m]))
			s.opens(t, row[:b], row[b:b+m+16], text)
		}
	}
}

// P7.3: Open of Seal is the text, which what is sealed does not show.
func TestOpenOfSeal(t *testing.T) {
	for _, s := range settings() {
		for _, b := range besides {
			for _, beside := range sample.Kinds(b) {
				for _, m := range append(slices.Clone(texts), api.MaxRecord, 1000) {
					for _, text := range sample.Kinds(m) {
						sealed := s.seal(beside, text)
						if len(sealed) != m+16 || m >= 15 && bytes.Contains(sealed, text) {
							t.Errorf("by %x, beside %x, of %x: %x", s, beside, text, sealed)
						}
						s.opens(t, beside, sealed, text)
					}
				}
			}
		}
	}
}

// P7.3: each bit of the tag turned, one at a time.
func TestOpenWithABitOfTheTagTurned(t *testing.T) {
	for _, s := range settings() {
		for i, b := range besides {
			for _, m := range texts {
				beside, text := sample.Kinds(b)[(i+m)%3], sample.Kinds(m)[i%3]
				sealed := s.seal(beside, text)
				for bit := 8 * m; bit < 8*len(sealed); bit++ {
					s.refuses(t, beside, sample.Turned(sealed, bit), api.ErrForged)
				}
				s.opens(t, beside, sealed, text)
			}
		}
	}
}

// P7.3: tags with several bits turned: bytes that are changed alike, that are exchanged, and all of them.
func TestOpenWithTheTagChanged(t *testing.T) {
	s, beside, text := drawn(26), sample.Drawn(27, 17), sample.Drawn(28, 33)
	sealed := s.seal(beside, text)
	for i := range 16 {
		for by := 1; by < 256; by++ {
			other := bytes.Clone(sealed)
			other[33+i] ^= byte(by)
			s.refuses(t, beside, other, api.ErrForged)
			other[33+(i+1)%16] ^= byte(by)
			s.refuses(t, beside, other, api.ErrForged)
		}
	}
	other := bytes.Clone(sealed)
	slices.Reverse(other[33:])
	s.refuses(t, beside, other, api.ErrForged)
	for i := range other[33:] {
		other[33+i] = ^sealed[33+i]
	}
	s.refuses(t, beside, other, api.ErrForged)
	s.refuses(t, beside, append([]byte(strings.Repeat("x", 33)), sealed[33:]...), api.ErrForged)
}

func BenchmarkSeal(b *testing.B) {
	s, beside, text := drawn(29), sample.Drawn(30, 11), sample.Drawn(31, api.MaxRecord)
	b.SetBytes(int64(len(text)))
	for b.Loop() {
		text[0] = s.seal(beside, text)[0]
	}
}

func BenchmarkOpen(b *testing.B) {
	s, beside := drawn(32), sample.Drawn(33, 11)
	sealed := s.seal(beside, sample.Drawn(34, api.MaxRecord))
	b.SetBytes(api.MaxRecord)
	for b.Loop() {
		s.open(beside, sealed)
	}
}
