package shake_test

import (
	"bytes"
	"strings"
	"testing"

	"sheave/aead"
	"sheave/api"
	"sheave/ladder"
	"sheave/sample"
	"sheave/shake"
)

// P13.1 to P13.6: the chapter's examples.
func TestExamples(t *testing.T) {
	a := shake.Begin(api.Key{1}, api.Key{3}, ladder.Public(api.Key{2}))
	b := shake.Await(api.Key{2}, api.Key{4})
	if got, e := a.TakeSecond(make([]byte, 50)); e != api.ErrState || len(got) != 0 {
		t.Errorf("TakeSecond ahead of First: %x, error %d", got, e)
	}
	x, e := a.First([]byte("hi"))
	if e != api.OK || len(x) != 98 {
		t.Fatalf("First: %x, error %d", x, e)
	}
	if got, e := b.TakeFirst(x); e != api.OK || string(got) != "hi" {
		t.Errorf("TakeFirst: %x, error %d", got, e)
	}
	y, e := b.Second([]byte("yo"))
	if e != api.OK || len(y) != 50 {
		t.Fatalf("Second: %x, error %d", y, e)
	}
	if got, e := a.TakeSecond(y); e != api.OK || string(got) != "yo" {
		t.Errorf("TakeSecond: %x, error %d", got, e)
	}
	p, one := a.Keys()
	if q, two := b.Keys(); p != q || !one || !two {
		t.Errorf("the keys %x, %v, and %x, %v", p, one, q, two)
	}
	if got, e := a.First([]byte("hi")); e != api.ErrState || len(got) != 0 {
		t.Errorf("First once more: %x, error %d", got, e)
	}
	if got, e := shake.Begin(api.Key{1}, api.Key{3}, api.Key{}).First(nil); e != api.ErrZero || len(got) != 0 {
		t.Errorf("to noughts: %x, error %d", got, e)
	}
}

// P13.2 to P13.5: what Python's hashlib, hmac and cryptography reckon.
func TestOfKnown(t *testing.T) {
	const (
		drawn1 = "358072d6365880d1aeea329adf9121383851ed21a28e3b75e965d0d2cd166254"
		hidden = "c9f0dff42c86abe5677abe74f6c87301577dbc1f3ffb2213827ca694a057fdbb" + "765fb6524d70e051fe0b21813da321e3"
		drawn2 = "64b101b1d0be5a8704bd078f9895001fc03e8e9f9522f188dd128d9846d48466"
	)
	keys := api.Pair{
		From: hex("7fcdf965612cf21bf53883add57fe44300a4d1c99efe29bcaa4f655182f92704"),
		To:   hex("9f6300605da8f24da50f3a19018b5db3083271efaa42e8c0056e90e42f6ed0b5"),
	}
	for _, x := range []struct{ text1, sealed1, text2, sealed2 string }{
		{"", "8a1fffb725906f3c304d81e0d076e9bf", "", "7af6a4ed76ed3f52a45ff741644f5070"},
		{"hi", "6f1abb17eeaf5f1cdd36e5003066ccbea0f7", "yo", "7217e2f82a47071941cf6c92db8f967d6ec0"},
	} {
		w := plain()
		a, b := shake.Begin(w.a, w.e, ladder.Public(w.b)), shake.Await(w.b, w.f)
		m, e := a.First([]byte(x.text1))
		if e != api.OK || !bytes.Equal(m, sample.Hex(drawn1+hidden+x.sealed1)) {
			t.Errorf("First of %q: %x, error %d", x.text1, m, e)
		}
		if got, e := b.TakeFirst(m); e != api.OK || string(got) != x.text1 {
			t.Errorf("TakeFirst of %q: %x, error %d", x.text1, got, e)
		}
		m, e = b.Second([]byte(x.text2))
		if e != api.OK || !bytes.Equal(m, sample.Hex(drawn2+x.sealed2)) {
			t.Errorf("Second of %q: %x, error %d", x.text2, m, e)
		}
		if got, e := a.TakeSecond(m); e != api.OK || string(got) != x.text2 {
			t.Errorf("TakeSecond of %q: %x, error %d", x.text2, got, e)
		}
		for _, s := range []*shake.Shake{a, b} {
			if got, are := s.Keys(); got != keys || !are {
				t.Errorf("the keys %x, %v", got, are)
			}
		}
	}
}

// P13.5: the keys seal what implementations of the Noise framework publish of the two messages that come behind a handshake with
// these secrets. (The handshake's own they publish with a prologue, on which the keys do not hang.)
func TestKeysOfPublished(t *testing.T) {
	p := talkOf(plain(), nil, nil).place(t, beganEnded)
	keys, are := p.s.Keys()
	if got := aead.Seal(keys.From, api.Nonce{}, nil, []byte("yellowsubmarine")); !are ||
		!bytes.Equal(got, sample.Hex("595694f9be48f03790f699455c84578b31d14a7baedfd736d73c53f66a5657")) {
		t.Errorf("by who began %x", got)
	}
	if got := aead.Seal(keys.To, api.Nonce{}, nil, []byte("submarineyellow")); !are ||
		!bytes.Equal(got, sample.Hex("621ae446b11fda3cf08e56102dac9324dee37a4e536cdc878e8b454d98bcf2")) {
		t.Errorf("by the other %x", got)
	}
}

// P13.1: who begins, and the other, with secrets and draws at the edges and anywhere, some of them the same.
func TestBeginAndAwait(t *testing.T) {
	t.Parallel()
	ones := api.Key(bytes.Repeat([]byte{0xff}, 32))
	l := []ends{{}, {ones, ones, ones, ones}, {api.Key{}, ones, api.Key{}, ones}, {ones, api.Key{}, ones, api.Key{}}, plain()}
	k := counted(7)
	l = append(l, ends{k, k, k, k}, ends{k, k, counted(9), counted(9)}, ends{k, counted(9), k, counted(9)})
	for seed := range 5 {
		l = append(l, endsOf(seed))
	}
	for _, w := range l {
		k := talkOf(w, []byte("hello"), []byte("and welcome"))
		k.beginner().look(t)
		k.awaiter().look(t)
	}
}

// P13.1, P13.5: two that were made apart have nothing in common (R8), even of the same keys.
func TestTwoThatWereMadeApart(t *testing.T) {
	t.Parallel()
	k := talkOf(endsOf(1), []byte("one"), []byte("two"))
	p, q := k.beginner(), k.awaiter()
	for _, other := range []place{k.beginner(), k.awaiter()} {
		for other.s != nil {
			other.look(t)
			p.look(t)
			q.look(t)
			other = other.next(t)
		}
	}
}

// P13.2 to P13.4: each call at each moment: by the right end and the wrong one, too early, in time and too late. ErrState comes
// first, however few or many bytes there are, and changes nothing.
func TestEachCallAtEachMoment(t *testing.T) {
	t.Parallel()
	for i, texts := range [][2]string{{"", ""}, {"first", "and second"}, {strings.Repeat("x", 128), strings.Repeat("y", 128)}} {
		k := talkOf(endsOf(10+i), []byte(texts[0]), []byte(texts[1]))
		for _, p := range k.places(t) {
			p.look(t)
			for _, c := range k.calls() {
				if c.at == p.at {
					continue
				}
				for _, b := range [][]byte{nil, {}, k.text1, k.text2, k.message1, k.message2, drawn(1), drawn(47), drawn(129), drawn(500)} {
					p.refuses(t, c, b, api.ErrState)
				}
				p.refuses(t, c, c.given, api.ErrState)
			}
			p.look(t)
		}
	}
}

// P13.2 to P13.4: what was done once is not done again, with the same bytes or others.
func TestSecondTime(t *testing.T) {
	t.Parallel()
	k := talkOf(endsOf(20), []byte("once"), []byte("again"))
	for _, p := range k.places(t) {
		for _, c := range k.calls() {
			if c.at != p.at {
				continue
			}
			if _, e := c.make(p.s, c.given); e != api.OK {
				t.Fatalf("%s: %s: error %d", p.what(), c.name, e)
			}
			p.at++
			for range 3 {
				p.refuses(t, c, c.given, api.ErrState)
				p.refuses(t, c, drawn(100), api.ErrState)
			}
			p.look(t)
			break
		}
	}
}

// P13.2, P13.4: texts of each length, and none at all: the message is as many bytes longer, and the text comes back.
func TestTexts(t *testing.T) {
	t.Parallel()
	w := endsOf(30)
	l := [][]byte{nil}
	for _, many := range []int{0, 1, 2, 15, 16, 17, 63, 64, 65, 127, 128} {
		l = append(l, sample.Kinds(many)...)
	}
	for i, text := range l {
		k := talkOf(w, text, l[len(l)-1-i])
		if len(k.message1) != 96+len(k.text1) || len(k.message2) != 48+len(k.text2) {
			t.Fatalf("the test itself makes %d and %d bytes", len(k.message1), len(k.message2))
		}
		k.beginner().look(t)
		k.awaiter().look(t)
	}
}

// P13.2, P13.4: texts that are too long, and that nothing is changed then: the right one goes.
func TestTextsTooLong(t *testing.T) {
	t.Parallel()
	k := talkOf(endsOf(31), drawn(128), drawn(127))
	for _, at := range []int{first, second} {
		c := k.calls()[at]
		p := k.place(t, c.at)
		for _, many := range []int{129, 130, 144, 160, 224, 256, 1000, 1 << 16} {
			p.refuses(t, c, make([]byte, many), api.ErrLong)
			p.refuses(t, c, drawn(many), api.ErrLong)
			p.look(t)
		}
	}
}

// P13.2: that a text is too long is told ahead of what dh tells.
func TestTooLongIsToldFirst(t *testing.T) {
	s := shake.Begin(counted(1), counted(2), api.Key{})
	for range 2 {
		if got, e := s.First(make([]byte, 129)); e != api.ErrLong || len(got) != 0 {
			t.Errorf("%x, error %d", got, e)
		}
		if got, e := s.First(make([]byte, 128)); e != api.ErrZero || len(got) != 0 {
			t.Errorf("%x, error %d", got, e)
		}
	}
}

// P13.3, P13.4: messages of each length: the beginnings of a right one, and bytes behind it.
func TestMessagesOfOtherLengths(t *testing.T) {
	t.Parallel()
	for _, many := range []int{0, 1, 5, 127, 128} {
		k := talkOf(endsOf(40+many), drawn(many), drawn(many))
		for _, at := range []int{takeFirst, takeSecond} {
			c := k.calls()[at]
			p := k.place(t, c.at)
			right := len(c.given)
			long := append(bytes.Clone(c.given), make([]byte, 300)...)
			for _, n := range []int{0, 1, 31, 32, 33, 47, 48, 49, 79, 80, 81, 95, 96, 97, right - 17, right - 16, right - 1, right + 1,
				right + 16, 175, 176, 177, 223, 224, 225, 226, 300} {
				if n == right {
					continue
				}
				want := api.ErrForged
				if n < c.least {
					want = api.ErrShort
				} else if n > c.most {
					want = api.ErrLong
				}
				p.refuses(t, c, long[:n], want)
			}
			p.refuses(t, c, nil, api.ErrShort)
			p.look(t)
		}
	}
}

// P13.3, P13.4: the length is told ahead of what is in the message.
func TestLengthIsToldFirst(t *testing.T) {
	t.Parallel()
	k := talkOf(endsOf(50), nil, nil)
	for _, at := range []int{takeFirst, takeSecond} {
		c := k.calls()[at]
		p := k.place(t, c.at)
		p.refuses(t, c, make([]byte, c.least-1), api.ErrShort)
		p.refuses(t, c, make([]byte, c.least), api.ErrZero)
		p.refuses(t, c, make([]byte, c.most), api.ErrZero)
		p.refuses(t, c, make([]byte, c.most+1), api.ErrLong)
		p.look(t)
	}
}

// P13.5: what Other and Keys tell at each moment, asked often; what is answered is the caller's own.
func TestOtherAndKeys(t *testing.T) {
	t.Parallel()
	k := talkOf(endsOf(60), []byte("who"), []byte("me"))
	for _, p := range k.places(t) {
		for range 3 {
			p.tells(t)
		}
		other, _ := p.s.Other()
		keys, _ := p.s.Keys()
		sample.Spoil(other[:])
		sample.Spoil(keys.From[:])
		sample.Spoil(keys.To[:])
		p.look(t)
	}
}

// P13.5: the keys are two, hang on each secret and draw of both, and not on the texts.
func TestKeysHangOnEachSecret(t *testing.T) {
	t.Parallel()
	w := endsOf(70)
	first := talkOf(w, nil, nil).place(t, beganEnded)
	keys, _ := first.s.Keys()
	seen := map[api.Key]int{keys.From: 0}
	look := func(number int, k api.Key) {
		if other, ok := seen[k]; ok {
			t.Errorf("rows %d and %d have the key %x", other, number, k)
		}
		seen[k] = number
	}
	look(0, keys.To)
	for i, turn := range []func(*ends) *api.Key{
		func(w *ends) *api.Key { return &w.a }, func(w *ends) *api.Key { return &w.e },
		func(w *ends) *api.Key { return &w.b }, func(w *ends) *api.Key { return &w.f },
	} {
		for j, at := range []int{0, 31} {
			other := w
			turn(&other)[at] ^= 0x20
			p := talkOf(other, nil, nil).place(t, tookEnded)
			got, _ := p.s.Keys()
			look(10*i+j+1, got.From)
			look(10*i+j+1, got.To)
		}
	}
	p := talkOf(w, []byte("some"), []byte("texts")).place(t, tookEnded)
	if got, _ := p.s.Keys(); got != keys {
		t.Errorf("with texts %x, without them %x", got, keys)
	}
}

// P13.5: one that was neither begun nor awaited takes part in nothing, and its clone does not.
func TestOneThatWasNotMade(t *testing.T) {
	k := talkOf(endsOf(80), nil, nil)
	for _, s := range []*shake.Shake{new(shake.Shake), new(shake.Shake).Clone()} {
		for _, c := range k.calls() {
			if got, e := c.make(s, c.given); e != api.ErrState || len(got) != 0 {
				t.Errorf("%s: %x, error %d", c.name, got, e)
			}
		}
		if got, is := s.Other(); got != (api.Key{}) || is {
			t.Errorf("the other is %x, %v", got, is)
		}
		if got, are := s.Keys(); got != (api.Pair{}) || are {
			t.Errorf("the keys %x, %v", got, are)
		}
	}
}
