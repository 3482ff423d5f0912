package shake

import (
	"testing"

	"sheave/api"
	"sheave/ladder"
)

// P13.5: behind the second message no secret is kept, at either end: nothing is made of them any more. This test stands inside the
// package, since it can't be seen from outside.
func TestSecretsAreLetGoOf(t *testing.T) {
	a, b := Begin(api.Key{8}, api.Key{16}, ladder.Public(api.Key{24})), Await(api.Key{24}, api.Key{32})
	first, _ := a.First(nil)
	b.TakeFirst(first)
	second, _ := b.Second(nil)
	a.TakeSecond(second)
	for _, s := range []*Shake{a, b, a.Clone(), b.Clone()} {
		if _, are := s.Keys(); !are || s.own.with != nil || s.drawn.with != nil {
			t.Errorf("at the end: keys %v, a secret %v, a draw %v", are, s.own.with != nil, s.drawn.with != nil)
		}
	}
}
