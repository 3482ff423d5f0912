package shake_test

import (
	"bytes"
	"slices"
	"testing"

	"sheave/api"
	"sheave/ladder"
	"sheave/sample"
	"sheave/shake"
)

// topSet is the same point for ladder, in other bytes.
func topSet(k api.Key) api.Key {
	k[31] |= 0x80
	return k
}

// weakPoints are those of which nothing but noughts comes, in each way to write them.
func weakPoints() []api.Key {
	var l []api.Key
	for _, k := range []api.Key{
		{}, {1},
		hex("ecffffffffffffffffffffffffffffffffffffffffffffffffffffffffffff7f"),
		hex("edffffffffffffffffffffffffffffffffffffffffffffffffffffffffffff7f"),
		hex("eeffffffffffffffffffffffffffffffffffffffffffffffffffffffffffff7f"),
		hex("e0eb7a7c3b41b8ae1656e3faf19fc46ada098deb9c32b1fd866205165f49b800"),
		hex("5f9c95bca3508c24b1d0b1559c83ef5b04445cc4581c8e86d8224eddd09f1157"),
	} {
		l = append(l, k, topSet(k))
	}
	return l
}

// with are the same bytes with others laid over them from a place on.
func with(b []byte, at int, over []byte) []byte {
	b = bytes.Clone(b)
	copy(b[at:], over)
	return b
}

// P13.3, P13.4, P13.5: each byte of a message with one bit turned, behind each of which all is as before.
func TestTurnedMessages(t *testing.T) {
	t.Parallel()
	for i, many := range []int{0, 2, 128} {
		k := talkOf(endsOf(100+i), drawn(many), drawn(many))
		for _, at := range []int{takeFirst, takeSecond} {
			c := k.calls()[at]
			p := k.place(t, c.at)
			for n := range c.given {
				p.refuses(t, c, sample.Turned(c.given, 8*n+n%8), api.ErrForged)
				p.look(t)
			}
		}
	}
}

// P13.3, P13.4: each bit of a message.
func TestEachBitCounts(t *testing.T) {
	t.Parallel()
	k := talkOf(endsOf(110), []byte("a"), []byte("b"))
	for _, at := range []int{takeFirst, takeSecond} {
		c := k.calls()[at]
		p := k.place(t, c.at)
		for bit := range 8 * len(c.given) {
			p.refuses(t, c, sample.Turned(c.given, bit), api.ErrForged)
		}
		p.look(t)
	}
}

// P13.5: one that has refused much takes the right message then, and goes on to the end by itself, not by a clone.
func TestGoesOnBehindErrors(t *testing.T) {
	t.Parallel()
	k := talkOf(endsOf(120), []byte("at last"), []byte("so it is"))
	a, b := k.beginner(), k.awaiter()
	calls := k.calls()
	for _, c := range []call{calls[first], calls[takeFirst], calls[second], calls[takeSecond]} {
		p := &a
		if c.at >= awaiter {
			p = &b
		}
		for _, d := range calls {
			if d.at != p.at {
				p.refuses(t, d, d.given, api.ErrState)
			}
		}
		p.refuses(t, c, make([]byte, 1000), api.ErrLong)
		if c.least > 0 {
			p.refuses(t, c, c.given[:c.least-1], api.ErrShort)
			p.refuses(t, c, make([]byte, c.least), api.ErrZero)
			p.refuses(t, c, sample.Turned(c.given, 3), api.ErrForged)
			p.refuses(t, c, sample.Turned(c.given, 8*len(c.given)-1), api.ErrForged)
		}
		if got, e := c.make(p.s, c.given); e != api.OK || !bytes.Equal(got, c.wants) {
			t.Errorf("%s: %x, error %d, not %x", c.name, got, e, c.wants)
		}
		p.at++
		a.tells(t)
		b.tells(t)
	}
}

// P13.2: a public key of which only noughts come, as the other's: it is told, each time, and nothing is changed.
func TestFirstToWeakPoints(t *testing.T) {
	t.Parallel()
	for _, weak := range weakPoints() {
		s := shake.Begin(counted(3), counted(4), weak)
		for _, text := range [][]byte{nil, drawn(1), drawn(128)} {
			if got, e := s.First(text); e != api.ErrZero || len(got) != 0 {
				t.Errorf("to %x: %x, error %d", weak, got, e)
			}
			if got, e := s.TakeSecond(make([]byte, 48)); e != api.ErrState || len(got) != 0 {
				t.Errorf("to %x, ahead of the first: %x, error %d", weak, got, e)
			}
			if other, is := s.Other(); other != weak || !is {
				t.Errorf("to %x: the other is %x, %v", weak, other, is)
			}
			if keys, are := s.Keys(); keys != (api.Pair{}) || are {
				t.Errorf("to %x: the keys %x, %v", weak, keys, are)
			}
		}
	}
}

// P13.3, P13.4: a drawn key of which only noughts come, in a message that is right else, or not.
func TestMessagesWithWeakDraws(t *testing.T) {
	t.Parallel()
	k := talkOf(endsOf(130), []byte("hi"), []byte("yo"))
	for _, at := range []int{takeFirst, takeSecond} {
		c := k.calls()[at]
		p := k.place(t, c.at)
		for _, weak := range weakPoints() {
			p.refuses(t, c, with(c.given, 0, weak[:]), api.ErrZero)
			p.refuses(t, c, with(drawn(len(c.given)), 0, weak[:]), api.ErrZero)
			p.tells(t)
		}
		p.look(t)
	}
}

// P13.3: a public key of which only noughts come, sealed in a message as it should be: it is told, ahead of what the text tells,
// and behind what the seal of the key does.
func TestFirstFromWeakPoints(t *testing.T) {
	t.Parallel()
	w := endsOf(140)
	k := talkOf(w, []byte("hi"), []byte("yo"))
	p := k.awaiter()
	c := k.calls()[takeFirst]
	for _, weak := range weakPoints() {
		_, m := firstOf(w, k.other, weak, k.text1)
		p.refuses(t, c, m, api.ErrZero)
		p.tells(t)
		p.refuses(t, c, with(m, 80, drawn(len(m)-80)), api.ErrZero)
		p.refuses(t, c, sample.Turned(m, 8*79), api.ErrForged)
		p.refuses(t, c, sample.Turned(m, 8*32), api.ErrForged)
	}
	p.look(t)
}

// P13.3, P13.4: a public key is taken in the bytes in which it comes, and all goes on with them.
func TestOwnKeyInOtherBytes(t *testing.T) {
	t.Parallel()
	w := endsOf(150)
	k := talkBy(w, topSet(public(w.a)), []byte("hi"), []byte("yo"))
	k.awaiter().look(t)
}

// P13.3: who begins knows the other by a wrong key: another's, or the right point in other bytes. The other refuses it, and who
// begins can't take an answer either.
func TestWrongKeyOfTheOther(t *testing.T) {
	t.Parallel()
	w := endsOf(160)
	k := talkOf(w, []byte("hi"), []byte("yo"))
	right := k.awaiter()
	c := k.calls()[takeFirst]
	for _, wrong := range []api.Key{
		public(counted(5)), public(w.a), public(w.e), public(w.f), topSet(k.other), w.b, {2}, {9},
		api.Key(sample.Turned(k.other[:], 0)), api.Key(sample.Turned(k.other[:], 200)),
	} {
		s := shake.Begin(w.a, w.e, wrong)
		m, e := s.First(k.text1)
		if _, want := firstOf(w, wrong, k.own, k.text1); e != api.OK || !bytes.Equal(m, want) {
			t.Errorf("to %x: %x, error %d, not %x", wrong, m, e, want)
		}
		right.refuses(t, c, m, api.ErrForged)
		right.tells(t)
		if got, e := s.TakeSecond(k.message2); e != api.ErrForged || len(got) != 0 {
			t.Errorf("from another than %x: %x, error %d", wrong, got, e)
		}
	}
	right.look(t)
}

// P13.3: who has another secret than the one that was meant takes nothing.
func TestWrongSecretOfTheOther(t *testing.T) {
	t.Parallel()
	w := endsOf(170)
	k := talkOf(w, []byte("hi"), []byte("yo"))
	for _, wrong := range []api.Key{{}, w.a, w.e, w.f, counted(6), api.Key(sample.Turned(w.b[:], 3)), api.Key(sample.Turned(w.b[:], 253))} {
		other := talkOf(ends{w.a, w.e, wrong, w.f}, k.text1, k.text2)
		p := other.awaiter()
		p.refuses(t, other.calls()[takeFirst], k.message1, api.ErrForged)
		p.look(t)
	}
	// these bits Trim sets or clears: it is the same secret
	for _, bit := range []int{0, 1, 2, 254, 255} {
		same := w
		same.b = api.Key(sample.Turned(w.b[:], bit))
		if ladder.Trim(same.b) != ladder.Trim(w.b) {
			t.Fatalf("bit %d is another secret", bit)
		}
		talkOf(same, k.text1, k.text2).awaiter().look(t)
		k.ends = same
		k.awaiter().look(t)
	}
}

// P13.3, P13.5: who says that it has another's public key, without the secret, is refused, and the other does not know it.
func TestOwnKeyWithoutItsSecret(t *testing.T) {
	t.Parallel()
	w := endsOf(180)
	k := talkOf(w, []byte("hi"), []byte("yo"))
	p := k.awaiter()
	for _, own := range []api.Key{public(counted(8)), k.other, public(w.e), {9}, api.Key(sample.Turned(k.own[:], 1))} {
		for _, text := range [][]byte{nil, k.text1, drawn(128)} {
			_, m := firstOf(w, k.other, own, text)
			p.refuses(t, k.calls()[takeFirst], m, api.ErrForged)
			p.tells(t)
		}
	}
	p.look(t)
}

// P13.3, P13.4: messages of other handshakes, and parts of them, do not open, even if but one secret or text is another.
func TestMessagesOfOthers(t *testing.T) {
	t.Parallel()
	w := endsOf(190)
	k := talkOf(w, []byte("hi"), []byte("yo"))
	n := counted(0x55)
	others := []talk{
		talkOf(ends{n, w.e, w.b, w.f}, k.text1, k.text2), talkOf(ends{w.a, n, w.b, w.f}, k.text1, k.text2),
		talkOf(ends{w.a, w.e, n, w.f}, k.text1, k.text2), talkOf(ends{w.a, w.e, w.b, w.f}, []byte("ho"), k.text2),
	}
	end1, end2 := k.place(t, awaiter), k.place(t, began)
	calls := k.calls()
	for i, o := range others {
		end2.refuses(t, calls[takeSecond], o.message2, api.ErrForged)
		for _, parts := range [][2][]byte{{k.message1, o.message1}, {o.message1, k.message1}} {
			for _, cut := range []int{32, 80} {
				m := slices.Concat(parts[0][:cut], parts[1][cut:])
				if bytes.Equal(m, k.message1) || bytes.Equal(m, o.message1) {
					continue
				}
				end1.refuses(t, calls[takeFirst], m, api.ErrForged)
			}
		}
		if i == 2 {
			end1.refuses(t, calls[takeFirst], o.message1, api.ErrForged)
		}
	}
	end1.look(t)
	end2.look(t)
	// the other's message of another draw is as good as this one
	o := talkOf(ends{w.a, w.e, w.b, n}, k.text1, []byte("another"))
	o.place(t, began).look(t)
	end2.talk = o
	end2.look(t)
}

// P13.3, P13.4: an end's own message, or the other message of the same handshake, is none for it.
func TestMessagesTheWrongWay(t *testing.T) {
	t.Parallel()
	k := talkOf(endsOf(200), drawn(10), drawn(58))
	end1, end2 := k.place(t, awaiter), k.place(t, began)
	calls := k.calls()
	end1.refuses(t, calls[takeFirst], k.message2, api.ErrForged)
	end2.refuses(t, calls[takeSecond], k.message1, api.ErrForged)
	end2.refuses(t, calls[takeSecond], k.message1[:48], api.ErrForged)
	end1.look(t)
	end2.look(t)
}
