package shake_test

import (
	"bytes"
	"crypto/sha256"
	"testing"

	"sheave/api"
	"sheave/ladder"
	"sheave/sample"
	"sheave/shake"
)

// handshake takes two through all of it, and answers what went to and fro, and the keys.
func handshake(t *testing.T, w ends, text1, text2 []byte) (first, second []byte, keys api.Pair) {
	t.Helper()
	a, b := shake.Begin(w.a, w.e, ladder.Public(w.b)), shake.Await(w.b, w.f)
	first, e := a.First(text1)
	if e != api.OK {
		t.Fatalf("First: error %d", e)
	}
	if got, e := b.TakeFirst(first); e != api.OK || !bytes.Equal(got, text1) {
		t.Fatalf("TakeFirst: %x, error %d, not %x", got, e, text1)
	}
	second, e = b.Second(text2)
	if e != api.OK {
		t.Fatalf("Second: error %d", e)
	}
	if got, e := a.TakeSecond(second); e != api.OK || !bytes.Equal(got, text2) {
		t.Fatalf("TakeSecond: %x, error %d, not %x", got, e, text2)
	}
	keys, one := a.Keys()
	if other, two := b.Keys(); other != keys || !one || !two {
		t.Errorf("the keys %x, %v, and %x, %v", keys, one, other, two)
	}
	if other, is := a.Other(); other != ladder.Public(w.b) || !is {
		t.Errorf("who began has %x, %v", other, is)
	}
	if other, is := b.Other(); other != ladder.Public(w.a) || !is {
		t.Errorf("the other has %x, %v", other, is)
	}
	return first, second, keys
}

// P13.6: many secrets, draws and texts, against what Python's hashlib, hmac and cryptography reckon: all messages and keys,
// hashed together.
func TestMany(t *testing.T) {
	t.Parallel()
	all := sha256.New()
	for seed := range 100 {
		text1, text2 := sample.Drawn(uint64(seed), seed*37%129), sample.Drawn(uint64(seed+1000), seed*91%129)
		first, second, keys := handshake(t, endsOf(500+seed), text1, text2)
		for _, b := range [][]byte{first, second, keys.From[:], keys.To[:]} {
			all.Write(b)
		}
	}
	if got := all.Sum(nil); !bytes.Equal(got, sample.Hex("dfb7660b2ae68b3ee0502f4fab5eaebd3c22d3e973794e2b78d90931073d8acb")) {
		t.Errorf("%x", got)
	}
}

// P13.6: the same each time (R6), and another draw of either makes other keys and messages, of the same secrets.
func TestDraws(t *testing.T) {
	t.Parallel()
	w := endsOf(300)
	first, second, keys := handshake(t, w, []byte("x"), []byte("y"))
	if a, b, k := handshake(t, w, []byte("x"), []byte("y")); !bytes.Equal(a, first) || !bytes.Equal(b, second) || k != keys {
		t.Errorf("once %x %x %x, then %x %x %x", first, second, keys, a, b, k)
	}
	v := w
	v.e = counted(1)
	if a, b, k := handshake(t, v, []byte("x"), []byte("y")); bytes.Equal(a, first) || bytes.Equal(b, second) || k == keys {
		t.Errorf("by another draw of who begins %x %x %x", a, b, k)
	}
	v = w
	v.f = counted(1)
	if a, b, k := handshake(t, v, []byte("x"), []byte("y")); !bytes.Equal(a, first) || bytes.Equal(b, second) || k == keys {
		t.Errorf("by another draw of the other %x %x %x", a, b, k)
	}
}

// deeds are what may be done of an end that is not at its end: the right call, and one of each error.
func deeds() []func(*testing.T, *place) {
	return []func(*testing.T, *place){
		func(t *testing.T, p *place) {
			for _, c := range p.calls() {
				if c.at != p.at {
					continue
				}
				if got, e := c.make(p.s, c.given); e != api.OK || !bytes.Equal(got, c.wants) {
					t.Errorf("%s: %s: %x, error %d", p.what(), c.name, got, e)
				}
				p.at++
				return
			}
		},
		func(t *testing.T, p *place) {
			for _, c := range p.calls() {
				want := api.ErrState
				if c.at == p.at {
					want = api.ErrLong
				}
				p.refuses(t, c, make([]byte, 300), want)
			}
		},
		func(t *testing.T, p *place) {
			for _, c := range p.calls() {
				if c.at == p.at && c.least > 0 {
					p.refuses(t, c, sample.Turned(c.given, 8*len(c.given)-1), api.ErrForged)
				}
			}
		},
	}
}

// P13.5: a clone goes its own way, and so does what it was made of (R7), whatever is done of the one and of the other.
func TestClone(t *testing.T) {
	t.Parallel()
	k := talkOf(endsOf(310), []byte("one"), []byte("and the other"))
	for _, p := range k.places(t) {
		for _, one := range deeds() {
			for _, two := range deeds() {
				from := p.clone()
				c := from.clone()
				one(t, &from)
				c.look(t)
				two(t, &c)
				from.look(t)
				d := c.clone()
				two(t, &d)
				c.look(t)
				d.look(t)
			}
		}
		p.look(t)
	}
}

// P13.5: two clones that answer with other texts, or take other answers, do not see each other.
func TestClonesThatPart(t *testing.T) {
	t.Parallel()
	w := endsOf(320)
	k, o := talkOf(w, []byte("this"), []byte("that")), talkOf(w, []byte("this one"), []byte("or that"))
	p := k.beginner()
	q := place{o, beginner, p.s.Clone()}
	for _, p := range []*place{&p, &q, &p, &q} {
		deeds()[0](t, p)
	}
	p.look(t)
	q.look(t)
	p = k.place(t, took)
	q = place{talkOf(w, k.text1, o.text2), took, p.s.Clone()}
	deeds()[0](t, &q)
	deeds()[0](t, &p)
	p.look(t)
	q.look(t)
}

// P13.5: a clone is another end, even if nothing is done of it.
func TestCloneIsAnother(t *testing.T) {
	for _, p := range talkOf(endsOf(330), nil, nil).places(t) {
		if c := p.s.Clone(); c == p.s || c == nil || c == p.s.Clone() {
			t.Errorf("%s: the same", p.what())
		}
	}
}

// P13.2 to P13.4: what is handed in stays as it was, with the room behind it, and an end does not hang on what becomes of it, nor
// of what it answered.
func TestLeavesWhatIsGiven(t *testing.T) {
	t.Parallel()
	for i, many := range []int{0, 1, 16, 100, 128} {
		k := talkOf(endsOf(340+i), drawn(many), drawn(128-many))
		for _, p := range k.places(t) {
			for _, c := range k.calls() {
				q := p.clone()
				b := sample.Roomy(c.given)
				kept := sample.Whole(b)
				got, e := c.make(q.s, b)
				if !bytes.Equal(sample.Whole(b), kept) {
					t.Errorf("%s: %s: %d bytes, or what is behind them, are changed", p.what(), c.name, len(b))
				}
				answered := bytes.Clone(got)
				sample.Spoil(b)
				if !bytes.Equal(got, answered) {
					t.Errorf("%s: %s: what was answered shares bytes with what was given", p.what(), c.name)
				}
				sample.Spoil(got)
				if c.at == p.at {
					q.at++
				}
				if (e == api.OK) != (c.at == p.at) {
					t.Errorf("%s: %s: error %d", p.what(), c.name, e)
				}
				q.look(t)
				p.look(t)
			}
		}
	}
}

// P13.3, P13.4, P13.5: messages that are refused stay as they were, too, with the room behind them.
func TestLeavesWhatIsRefused(t *testing.T) {
	t.Parallel()
	k := talkOf(endsOf(350), drawn(20), drawn(30))
	for _, at := range []int{takeFirst, takeSecond} {
		c := k.calls()[at]
		p := k.place(t, c.at)
		for _, x := range []struct {
			b    []byte
			want api.Errno
		}{
			{sample.Turned(c.given, 0), api.ErrForged}, {sample.Turned(c.given, 8*40), api.ErrForged},
			{sample.Turned(c.given, 8*len(c.given)-1), api.ErrForged}, {make([]byte, 100), api.ErrZero},
			{c.given[:40], api.ErrShort}, {make([]byte, 300), api.ErrLong},
		} {
			b := sample.Roomy(x.b)
			kept := sample.Whole(b)
			p.refuses(t, c, b, x.want)
			if !bytes.Equal(sample.Whole(b), kept) {
				t.Errorf("%s: %d bytes, or what is behind them, are changed", c.name, len(b))
			}
			sample.Spoil(b)
			p.look(t)
		}
	}
}

// P13.6: ends that take part in several handshakes at a time, each with ends of its own, do not get in each other's way.
func TestSeveralAtATime(t *testing.T) {
	t.Parallel()
	var l []place
	for seed := range 6 {
		k := talkOf(endsOf(400+seed), drawn(seed), drawn(seed+1))
		l = append(l, k.beginner(), k.awaiter())
	}
	for range 2 {
		for i := range l {
			deeds()[0](t, &l[i])
		}
	}
	for _, p := range l {
		p.look(t)
	}
}

func BenchmarkHandshake(b *testing.B) {
	w := endsOf(1)
	other := ladder.Public(w.b)
	for range b.N {
		begins, awaits := shake.Begin(w.a, w.e, other), shake.Await(w.b, w.f)
		first, _ := begins.First(nil)
		awaits.TakeFirst(first)
		second, _ := awaits.Second(nil)
		begins.TakeSecond(second)
	}
}

func BenchmarkForgedFirst(b *testing.B) {
	w := endsOf(1)
	m, s := sample.Turned(talkOf(w, nil, nil).message1, 8*40), shake.Await(w.b, w.f)
	for range b.N {
		s.TakeFirst(m)
	}
}
