package keys_test

import (
	"fmt"
	"strings"
	"testing"

	"sheave/api"
	"sheave/kdf"
	"sheave/keys"
)

// P15.2: what Next tells is the key behind Advance; one Advance on it is still there, two on it is not.
func TestNextIsTheKeyBehindAdvance(t *testing.T) {
	for name, p := range histories(t) {
		next, e := p.k.Next()
		if e != api.OK {
			continue
		}
		epoch := p.k.Epoch() + 1
		for step, want := range []api.Errno{api.ErrEpoch, api.OK, api.OK, api.ErrEpoch, api.ErrEpoch} {
			if p.k.Epoch() < epoch-1+step {
				break // the last epoch came earlier
			}
			got, e := p.k.Key(epoch)
			if e != want || e == api.OK && got != next || e != api.OK && got != (api.Key{}) {
				t.Errorf("%s, %d on: %x, %d; %x was next", name, step, got, e, next)
			}
			p.k.Advance()
		}
	}
}

// P15.2: the same over a long row of epochs, of which each Next is asked for, often or never.
func TestNextOverEpochs(t *testing.T) {
	for often := range 3 {
		k := keys.New(drawn(30))
		want := map[int]api.Key{}
		for epoch := range 500 {
			want[epoch+1] = kdf.Of(on(drawn(30), epoch+1))
			for range often {
				if got, e := k.Next(); e != api.OK || got != want[epoch+1] {
					t.Fatalf("in %d: %x, %d is next", epoch, got, e)
				}
			}
			k.Advance()
			if got, e := k.Key(epoch + 1); e != api.OK || got != want[epoch+1] {
				t.Fatalf("Key(%d), told: %x, %d", epoch+1, got, e)
			}
			if got, e := k.Key(epoch); epoch > 0 && (e != api.OK || got != want[epoch]) {
				t.Fatalf("Key(%d), one on: %x, %d", epoch, got, e)
			}
			if got, e := k.Key(epoch - 1); e != api.ErrEpoch || got != (api.Key{}) {
				t.Fatalf("Key(%d), two on: %x, %d", epoch-1, got, e)
			}
		}
	}
}

// P15.1: neither of the two sees what is done to the other, nor does one more of the first.
func TestClone(t *testing.T) {
	for _, p := range histories(t) {
		one, two := p.clone(), p.clone()
		one.look()
		one.advances(3)
		p.look()
		two.look()
		p.advances(1)
		one.look()
		two.look()
		three := one.clone()
		three.advances(2)
		for _, x := range []*pair{one, two, three, p} {
			x.look()
		}
		two.advances(2)
		for _, x := range []*pair{one, two, three, p} {
			x.look()
		}
	}
}

// P15.1: a clone is a thing of its own, not the same one by another name.
func TestCloneIsAnother(t *testing.T) {
	k := keys.New(drawn(31))
	c := k.Clone()
	if k == c || *k != *c {
		t.Error("the same thing, or another state")
	}
	c.Advance()
	if k.Epoch() != 0 || c.Epoch() != 1 || c.Clone().Epoch() != 1 {
		t.Errorf("epochs %d and %d", k.Epoch(), c.Epoch())
	}
	if e := c.Advance(); e != api.OK {
		t.Error(e)
	}
	if got, e := k.Key(0); e != api.OK || got != kdf.Of(drawn(31)) {
		t.Errorf("%x, %d", got, e)
	}
}

// R8: two that were made apart have nothing in common, with the same root or with another one.
func TestApart(t *testing.T) {
	one, same, other, far := newPair(t, drawn(32)), newPair(t, drawn(32)), newPair(t, drawn(33)), pairAt(t, drawn(32), 9, 9)
	for i := range 60 {
		one.advance()
		if i%2 == 0 {
			other.advance()
		}
		if i%3 == 0 {
			far.advance()
		}
		for _, p := range []*pair{one, same, other, far} {
			p.look()
		}
	}
}

// R6: the same calls answer the same each time.
func TestSameEachTime(t *testing.T) {
	one, two := histories(t), histories(t)
	for name, p := range one {
		if *p.k != *two[name].k {
			t.Errorf("%s: not the same", name)
		}
	}
}

// Who learns what is kept learns no secret of an epoch ahead, nor a key of one that is two ahead: there is no way back.
func TestNothingEarlierIsKept(t *testing.T) {
	root := drawn(34)
	k := keys.New(root)
	for epoch := range 20 {
		kept := fmt.Sprintf("%x", *k)
		holds := func(x api.Key) bool { return strings.Contains(kept, fmt.Sprintf("%x", x)) }
		if !holds(on(root, epoch)) {
			t.Errorf("in %d: this epoch's secret is not found, so nothing would be", epoch)
		}
		for ahead := range epoch {
			if holds(on(root, ahead)) {
				t.Errorf("in %d: the secret of %d", epoch, ahead)
			}
			if ahead < epoch-1 && holds(kdf.Of(on(root, ahead))) {
				t.Errorf("in %d: the key of %d", epoch, ahead)
			}
		}
		k.Advance()
	}
}

// R1: what was declared alone, and not made, panics at nothing either.
func TestDeclared(t *testing.T) {
	var k keys.Keys
	for range 4 {
		for _, epoch := range edges() {
			k.Key(epoch)
		}
		k.Next()
		if *k.Clone() != k {
			t.Errorf("in %d: a clone is another", k.Epoch())
		}
		k.Advance()
	}
}

func BenchmarkKey(b *testing.B) {
	k := keys.New(drawn(35))
	for b.Loop() {
		k.Key(0)
	}
}

func BenchmarkNext(b *testing.B) {
	k := keys.New(drawn(36))
	for b.Loop() {
		k.Next()
	}
}

func BenchmarkAdvance(b *testing.B) {
	k := keys.New(drawn(37))
	for b.Loop() {
		if k.Advance() != api.OK {
			k = keys.New(drawn(37))
		}
	}
}
