package shake_test

import (
	"bytes"
	"crypto/ecdh"
	"slices"
	"testing"

	"sheave/api"
	"sheave/sample"
	"sheave/shake"
	"sheave/symmetric"
)

// ends are the secrets and draws of two: a and e of who begins, b and f of the other.
type ends struct{ a, e, b, f api.Key }

// counted are 32 bytes, each one more than the one ahead of it.
func counted(from byte) api.Key {
	var k api.Key
	for i := range k {
		k[i] = from + byte(i)
	}
	return k
}

// plain are ends with digits that are easy to write down.
func plain() ends { return ends{a: counted(0), e: counted(0x20), b: counted(1), f: counted(0x41)} }

// endsOf are ends without a rule.
func endsOf(seed int) ends {
	d := sample.Drawn(uint64(seed), 128)
	return ends{a: api.Key(d[:32]), e: api.Key(d[32:64]), b: api.Key(d[64:96]), f: api.Key(d[96:])}
}

// public is what Go's own X25519 makes of a secret.
func public(secret api.Key) api.Key {
	k, err := ecdh.X25519().NewPrivateKey(secret[:])
	if err != nil {
		panic(err)
	}
	return api.Key(k.PublicKey().Bytes())
}

// dh is what Go's own X25519 makes of a secret and a point; noughts of those points that it refuses.
func dh(secret, point api.Key) []byte {
	k, err := ecdh.X25519().NewPrivateKey(secret[:])
	if err != nil {
		panic(err)
	}
	p, err := ecdh.X25519().NewPublicKey(point[:])
	if err != nil {
		panic(err)
	}
	s, err := k.ECDH(p)
	if err != nil {
		return make([]byte, 32)
	}
	return s
}

// firstOf is the first message by the chapter's words, to the public key other, of one that says it has the public key own; and
// the state behind it.
func firstOf(w ends, other, own api.Key, text []byte) (*symmetric.State, []byte) {
	s := symmetric.New()
	s.Mix(other[:])
	drawn := public(w.e)
	s.Mix(drawn[:])
	s.Key(dh(w.e, other))
	hidden := s.Seal(own[:])
	s.Key(dh(w.a, other))
	return s, slices.Concat(drawn[:], hidden, s.Seal(text))
}

// secondOf is the second message by the chapter's words, and the keys, behind a first one that said own; the state goes along.
func secondOf(s *symmetric.State, w ends, own api.Key, text []byte) (api.Pair, []byte) {
	drawn := public(w.f)
	s.Mix(drawn[:])
	s.Key(dh(w.f, public(w.e)))
	s.Key(dh(w.f, own))
	sealed := s.Seal(text)
	from, to := s.Split()
	return api.Pair{From: from, To: to}, slices.Concat(drawn[:], sealed)
}

// talk is a whole handshake as it must go.
type talk struct {
	ends
	own, other         api.Key // the public keys: of who begins, of the other
	text1, text2       []byte
	message1, message2 []byte
	keys               api.Pair
}

func talkOf(w ends, text1, text2 []byte) talk {
	return talkBy(w, public(w.a), text1, text2)
}

// talkBy is a handshake in which who begins says that its public key is own.
func talkBy(w ends, own api.Key, text1, text2 []byte) talk {
	k := talk{ends: w, own: own, other: public(w.b), text1: text1, text2: text2}
	var s *symmetric.State
	s, k.message1 = firstOf(w, k.other, k.own, text1)
	k.keys, k.message2 = secondOf(s, w, own, text2)
	return k
}

// The moments of an end, in their order: first of who begins, then of the other.
const (
	beginner = iota
	began
	beganEnded
	awaiter
	took
	tookEnded
	moments
)

var names = [moments]string{"who begins", "who begins, behind the first", "who begins, at the end", "the other",
	"the other, behind the first", "the other, at the end"}

// call is one of the four, the moment at which it may be made, what it is given then, and what it answers.
type call struct {
	name         string
	make         func(*shake.Shake, []byte) ([]byte, api.Errno)
	at           int
	given, wants []byte
	least, most  int
}

const (
	first = iota
	takeFirst
	second
	takeSecond
)

func (k talk) calls() []call {
	return []call{
		first:      {"First", (*shake.Shake).First, beginner, k.text1, k.message1, 0, 128},
		takeFirst:  {"TakeFirst", (*shake.Shake).TakeFirst, awaiter, k.message1, k.text1, 96, 224},
		second:     {"Second", (*shake.Shake).Second, took, k.text2, k.message2, 0, 128},
		takeSecond: {"TakeSecond", (*shake.Shake).TakeSecond, began, k.message2, k.text2, 48, 176},
	}
}

// place is an end at a moment of a talk.
type place struct {
	talk
	at int
	s  *shake.Shake
}

func (k talk) beginner() place { return place{k, beginner, shake.Begin(k.a, k.e, k.other)} }

func (k talk) awaiter() place { return place{k, awaiter, shake.Await(k.b, k.f)} }

// places are the ends at each of the moments.
func (k talk) places(t *testing.T) []place {
	t.Helper()
	var l []place
	for _, p := range []place{k.beginner(), k.awaiter()} {
		for p.s != nil {
			l = append(l, p.clone())
			p = p.next(t)
		}
	}
	return l
}

func (k talk) place(t *testing.T, at int) place {
	t.Helper()
	return k.places(t)[at]
}

func (p place) clone() place { return place{p.talk, p.at, p.s.Clone()} }

func (p place) what() string { return names[p.at] }

// next makes the call that may be made, of a clone, and holds it to what it must answer; at the end there is none.
func (p place) next(t *testing.T) place {
	t.Helper()
	for _, c := range p.calls() {
		if c.at != p.at {
			continue
		}
		s := p.s.Clone()
		if got, e := c.make(s, c.given); e != api.OK || !bytes.Equal(got, c.wants) {
			t.Errorf("%s: %s of %x: %x, error %d, not %x", p.what(), c.name, c.given, got, e, c.wants)
		}
		return place{p.talk, p.at + 1, s}
	}
	return place{}
}

// tells holds an end's Other and Keys to the moment.
func (p place) tells(t *testing.T) {
	t.Helper()
	var other api.Key
	switch p.at {
	case beginner, began, beganEnded:
		other = p.other
	case took, tookEnded:
		other = p.own
	}
	if got, is := p.s.Other(); got != other || is != (p.at != awaiter) {
		t.Errorf("%s: the other is %x, %v, not %x", p.what(), got, is, other)
	}
	var keys api.Pair
	ended := p.at == beganEnded || p.at == tookEnded
	if ended {
		keys = p.keys
	}
	if got, are := p.s.Keys(); got != keys || are != ended {
		t.Errorf("%s: the keys %x, %v, not %x", p.what(), got, are, keys)
	}
}

// look holds all that can be seen of an end to the moment: what it tells, which calls it refuses, and all the rest of the talk
// with a clone.
func (p place) look(t *testing.T) {
	t.Helper()
	p.tells(t)
	for _, c := range p.calls() {
		if c.at != p.at {
			p.refuses(t, c, c.given, api.ErrState)
		}
	}
	if n := p.next(t); n.s != nil {
		n.look(t)
	}
}

// refuses holds a call to an error, without anything beside it.
func (p place) refuses(t *testing.T, c call, given []byte, want api.Errno) {
	t.Helper()
	if got, e := c.make(p.s, given); e != want || len(got) != 0 {
		t.Errorf("%s: %s of %x: %x, error %d, not %d", p.what(), c.name, given, got, e, want)
	}
}

func drawn(many int) []byte { return sample.Drawn(uint64(many), many) }

// hex reads 64 hexadecimal digits.
func hex(digits string) api.Key { return api.Key(sample.Hex(digits)) }
