package symmetric_test

import (
	"bytes"
	"crypto/sha256"
	"slices"
	"testing"

	"sheave/aead"
	"sheave/api"
	"sheave/ladder"
	"sheave/sample"
	"sheave/symmetric"
)

// carries has one state seal a text and the other one open it.
func carries(t *testing.T, from, to *symmetric.State, text []byte) []byte {
	t.Helper()
	sealed := from.Seal(text)
	if got, e := to.Open(sealed); e != api.OK || !bytes.Equal(got, text) {
		t.Errorf("of %x: %x, error %d, not %x", sealed, got, e, text)
	}
	return sealed
}

// isSame holds two states to the same hash and the same keys.
func isSame(t *testing.T, a, b *symmetric.State) {
	t.Helper()
	if a.Hash() != b.Hash() {
		t.Errorf("the hashes %x and %x", a.Hash(), b.Hash())
	}
	p, q := a.Split()
	if v, w := b.Split(); p != v || q != w {
		t.Errorf("split into %x and %x, and into %x and %x", p, q, v, w)
	}
}

// P12.5: rows of calls without a rule, in which both seal and the other one opens, against what Python's hashlib, hmac and
// cryptography reckon: all that was sealed, all hashes and the keys in the end, hashed together.
func TestTwoThatDidTheSame(t *testing.T) {
	all := sha256.New()
	tell := func(k api.Key) { all.Write(k[:]) }
	for seed := range 200 {
		a, b := symmetric.New(), symmetric.New()
		for i, deed := range sample.Drawn(uint64(1000+seed), 40) {
			text := sample.Drawn(uint64(seed*64+i), int(deed)/4*3)
			switch deed % 4 {
			case 0:
				a.Mix(text)
				b.Mix(text)
			case 1:
				a.Key(text)
				b.Key(text)
			case 2:
				all.Write(carries(t, a, b, text))
			case 3:
				all.Write(carries(t, b, a, text))
			}
			isSame(t, a, b)
			tell(a.Hash())
		}
		first, second := a.Split()
		tell(first)
		tell(second)
	}
	if got := all.Sum(nil); !bytes.Equal(got, sample.Hex("eb2dcfa2ebe30d4c79af31366c7c095610c2878af5812d184d618a504c484aed")) {
		t.Errorf("%x", got)
	}
}

// P12.5: all rows of four calls, of each kind that there is, with clones and bytes that do not open in between.
func TestAllShortRows(t *testing.T) {
	const kinds, calls = 5, 4
	rows := 1
	for range calls {
		rows *= kinds
	}
	for row := range rows {
		a, b := begin(), begin()
		for n, left := 0, row; n < calls; n, left = n+1, left/kinds {
			text := drawn(10 + n)
			switch left % kinds {
			case 0:
				a.mix(t, text)
				b.mix(t, text)
			case 1:
				a.key(t, text)
				b.key(t, text)
			case 2:
				a.seal(t, text)
				b.opens(t, text)
			case 3:
				a.opens(t, text)
				b.seal(t, text)
			case 4:
				a = a.clone()
				if b.m.keyed {
					b.refuses(t, drawn(40), api.ErrForged)
				}
			}
			isSame(t, a.s, b.s)
		}
	}
}

// P12.5: two that did not do the same have other hashes, and neither opens what the other sealed.
func TestTwoThatDidNotDoTheSame(t *testing.T) {
	mix := func(b string) func(*symmetric.State) { return func(s *symmetric.State) { s.Mix([]byte(b)) } }
	key := func(b string) func(*symmetric.State) { return func(s *symmetric.State) { s.Key([]byte(b)) } }
	seal := func(b string) func(*symmetric.State) { return func(s *symmetric.State) { s.Seal([]byte(b)) } }
	rows := [][]func(*symmetric.State){
		{}, {mix("")}, {mix("a")}, {mix("b")}, {mix("ab")}, {mix("a"), mix("b")}, {mix("b"), mix("a")}, {seal("c")},
		{key(""), seal("")}, {key("a"), seal("")}, {key("b"), seal("")}, {key("a"), key("b"), seal("")}, {key("a"), seal("a")},
		{mix("a"), key("a"), seal("")}, {key("a"), seal(""), mix("a")}, {key("a"), seal(""), seal("")},
	}
	did := func(row []func(*symmetric.State)) *symmetric.State {
		s := symmetric.New()
		for _, f := range row {
			f(s)
		}
		return s
	}
	for i := range rows {
		for j := range rows {
			a, b := did(rows[i]), did(rows[j])
			if (a.Hash() == b.Hash()) != (i == j) {
				t.Errorf("rows %d and %d: the hashes %x and %x", i, j, a.Hash(), b.Hash())
			}
			a.Key([]byte("last"))
			b.Key([]byte("last"))
			if got, e := b.Open(a.Seal([]byte("text"))); (e == api.OK) != (i == j) || e != api.OK && (e != api.ErrForged || len(got) != 0) {
				t.Errorf("rows %d and %d: %x, error %d", i, j, got, e)
			}
		}
	}
}

// handshake is one of the Noise framework, as its implementations tell it; the secrets of all are the same.
type handshake struct{ prologue, text1, message1, text2, message2 string }

// end is one of the two: its secret, and the one that it drew.
type end struct {
	*symmetric.State
	secret, draw api.Key
}

func counted(from int) (k api.Key) {
	for i := range k {
		k[i] = byte(from + i)
	}
	return k
}

func (e end) keyOf(t *testing.T, secret, public api.Key) {
	t.Helper()
	shared, err := ladder.Shared(secret, public)
	if err != api.OK {
		t.Fatalf("of %x: error %d", public, err)
	}
	e.Key(shared[:])
}

// first is who begins' message, taken by the other one.
func first(t *testing.T, a, b end, text []byte) []byte {
	t.Helper()
	drew, public, other := ladder.Public(a.draw), ladder.Public(a.secret), ladder.Public(b.secret)
	a.Mix(drew[:])
	b.Mix(drew[:])
	a.keyOf(t, a.draw, other)
	b.keyOf(t, b.secret, drew)
	hidden := carries(t, a.State, b.State, public[:])
	a.keyOf(t, a.secret, other)
	b.keyOf(t, b.secret, public)
	return slices.Concat(drew[:], hidden, carries(t, a.State, b.State, text))
}

// second is the other's message, taken by who began.
func second(t *testing.T, a, b end, text []byte) []byte {
	t.Helper()
	drew, public, their := ladder.Public(b.draw), ladder.Public(a.secret), ladder.Public(a.draw)
	b.Mix(drew[:])
	a.Mix(drew[:])
	b.keyOf(t, b.draw, their)
	a.keyOf(t, a.draw, drew)
	b.keyOf(t, b.draw, public)
	a.keyOf(t, a.secret, drew)
	return slices.Concat(drew[:], carries(t, b.State, a.State, text))
}

// P12.1 to P12.5: whole handshakes, with the messages that implementations of the Noise framework publish. These mix a prologue
// first, be it empty or not.
func TestHandshakes(t *testing.T) {
	const (
		drew1 = "358072d6365880d1aeea329adf9121383851ed21a28e3b75e965d0d2cd166254"
		hides = "c9f0dff42c86abe5677abe74f6c87301577dbc1f3ffb2213827ca694a057fdbb"
		drew2 = "64b101b1d0be5a8704bd078f9895001fc03e8e9f9522f188dd128d9846d48466"
	)
	for i, x := range []handshake{
		{
			"", "", drew1 + hides + "ff7f7350265fe61102c24d7d7a7e960b" + "a8b90a679895087c7d28b1d6703f9727",
			"", drew2 + "22bf9c6171ddd4c8f682080b03504eee",
		},
		{
			"", "test_msg_0", drew1 + hides + "ff7f7350265fe61102c24d7d7a7e960b" + "7316fcb3b0687be852fd2fba8969816fbfaa8b459d0b59e8a42f",
			"test_msg_1", drew2 + "7f1d8bd2b9b659695f9077e7062bb0b9e7c08fd627913be183c3",
		},
		{
			"notsecret", "", drew1 + hides + "acac81d639bfae65c7827558f90acd27" + "f14e182372e5bee2fa04eca3d32f09a9",
			"", drew2 + "bbaba571a4d366dfe3958808b6a298f9",
		},
		{
			"notsecret", "test_msg_0", drew1 + hides + "acac81d639bfae65c7827558f90acd27" + "7316fcb3b0687be852fd7e392456bb6cbe070c749f1bd7c55fc2",
			"test_msg_1", drew2 + "7f1d8bd2b9b659695f90e35beaf5a5f5f1e7c83aa3194a2430cd",
		},
	} {
		a := end{symmetric.New(), counted(0), counted(0x20)}
		b := end{symmetric.New(), counted(1), counted(0x41)}
		public := ladder.Public(b.secret)
		for _, e := range []end{a, b} {
			e.Mix([]byte(x.prologue))
			e.Mix(public[:])
		}
		if got := first(t, a, b, []byte(x.text1)); !bytes.Equal(got, sample.Hex(x.message1)) {
			t.Errorf("row %d: the first %x", i, got)
		}
		if got := second(t, a, b, []byte(x.text2)); !bytes.Equal(got, sample.Hex(x.message2)) {
			t.Errorf("row %d: the second %x", i, got)
		}
		isSame(t, a.State, b.State)
		goesOn(t, a.State)
	}
}

// goesOn holds the keys that a handshake ends in to what is published of the next two messages: of who began, and of the other.
func goesOn(t *testing.T, s *symmetric.State) {
	t.Helper()
	from, to := s.Split()
	if got := aead.Seal(from, api.Nonce{}, nil, []byte("yellowsubmarine")); !bytes.Equal(got, sample.Hex("595694f9be48f03790f699455c84578b31d14a7baedfd736d73c53f66a5657")) {
		t.Errorf("by who began %x", got)
	}
	if got := aead.Seal(to, api.Nonce{}, nil, []byte("submarineyellow")); !bytes.Equal(got, sample.Hex("621ae446b11fda3cf08e56102dac9324dee37a4e536cdc878e8b454d98bcf2")) {
		t.Errorf("by the other %x", got)
	}
}
