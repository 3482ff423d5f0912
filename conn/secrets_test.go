package conn

import (
	"testing"

	"sheave/api"
)

// P22.4: an end that is open keeps nothing of the handshake that it does not need any more: above all not the keys that it ended in,
// of which those of all epochs are made. This test stands inside the package, since it can't be seen from outside.
func TestHandshakeIsLetGoOf(t *testing.T) {
	for role := range 2 {
		c, _ := met(t, role)
		for _, x := range []*Conn{c, c.Clone()} {
			g := x.greeting
			keys, are := g.shake.Keys()
			other, is := g.shake.Other()
			if are || is || keys != (api.Pair{}) || other != (api.Key{}) {
				t.Errorf("role %d: the keys %v, the other %v", role, are, is)
			}
			if role == begins && (g.hello != nil || g.reply != nil) {
				t.Errorf("role %d: the messages %x, %x", role, g.hello, g.reply)
			}
		}
	}
}
