package conn

import (
	"slices"
	"testing"

	"sheave/api"
	"sheave/frames"
	"sheave/guard"
	"sheave/ladder"
	"sheave/packet"
)

// These tests stand inside the package, since a path's counters can't be brought to their end from outside.

// beyond is the counter behind the last one: with it nothing is sealed.
const beyond = api.MaxCounter + 1

// met is an open end on whose paths 0, 3 and 5 the other one has sent a record, and what opens its records.
func met(t *testing.T, role int) (*Conn, *guard.Guard) {
	t.Helper()
	a := New(api.Config{Secret: api.Key{1}, Public: ladder.Public(api.Key{2}), Draw: api.Key{3}})
	b := New(api.Config{Role: 1, Secret: api.Key{2}, Draw: api.Key{4}})
	hello, _ := a.Poll(0)
	b.Deliver(hello[0])
	reply, _ := b.Poll(0)
	a.Deliver(reply[0])
	ends := [2]*Conn{a, b}
	c, other := ends[role], ends[1-role].guard.Clone()
	for _, id := range []int{0, 3, 5} {
		d, _ := other.Seal(id, nil)
		if e := c.Deliver(d); e != api.OK {
			t.Fatalf("Deliver: error %d", e)
		}
	}
	return c, other
}

// skip has a path's counter be n.
func skip(t *testing.T, c *Conn, id, n int) {
	t.Helper()
	if e := c.guard.Skip(id, n); e != api.OK {
		t.Fatalf("Skip: error %d", e)
	}
}

// sent is one frame of a record: where it went, and what it says.
type sent struct{ path, kind, at, many int }

// gives holds what a Poll gives to what it must, frame by frame.
func gives(t *testing.T, c *Conn, other *guard.Guard, most int, want ...sent) {
	t.Helper()
	l, e := c.Poll(most)
	if e != api.OK {
		t.Fatalf("Poll: error %d", e)
	}
	var have []sent
	for _, b := range l {
		path, _, text, e := other.Open(b)
		if e != api.OK {
			t.Fatalf("Open: error %d", e)
		}
		l, e := frames.Decode(text)
		if e != api.OK {
			t.Fatalf("Decode: error %d", e)
		}
		for _, f := range l {
			have = append(have, sent{path, f.Kind, f.At, len(f.Bytes)})
		}
	}
	if !slices.Equal(have, want) {
		t.Fatalf("Poll(%d): %v, not %v", most, have, want)
	}
}

func states(t *testing.T, c *Conn, want map[int]int) {
	t.Helper()
	for id, state := range want {
		if p := c.Path(id); p.State != state || state != api.PathLive && p.Window != 0 {
			t.Fatalf("%+v, not in the state %d", p, state)
		}
	}
}

const gone, live = api.PathGone, api.PathLive

// P22.3: bytes that go on a path where nothing can be sealed any more are lost, and go on another one; the path is removed, and what was
// under way there is lost, too. The record that was refused counts among those that were asked for.
func TestDataRefused(t *testing.T) {
	for role := range 2 {
		c, other := met(t, role)
		c.Write(make([]byte, 400))
		gives(t, c, other, 1, sent{0, api.FrData, 0, 128})
		skip(t, c, 0, beyond)
		gives(t, c, other, 0)
		states(t, c, map[int]int{0: live, 3: live, 5: live})
		gives(t, c.Clone(), other.Clone(), 3, sent{3, api.FrData, 0, 128}, sent{3, api.FrData, 128, 128})
		gives(t, c, other, 1)
		states(t, c, map[int]int{0: gone, 3: live, 5: live})
		gives(t, c, other, 64, sent{3, api.FrData, 0, 128}, sent{3, api.FrData, 128, 128}, sent{3, api.FrData, 256, 128}, sent{3, api.FrData, 384, 16})
	}
}

// P22.3: one path behind the other, until there is none: what was to go stays, until there is a path again.
func TestAllRefused(t *testing.T) {
	for role := range 2 {
		c, other := met(t, role)
		c.Write(make([]byte, 100))
		for _, id := range []int{0, 3, 5} {
			skip(t, c, id, beyond)
		}
		gives(t, c, other, 2)
		states(t, c, map[int]int{0: gone, 3: gone, 5: live})
		gives(t, c, other, 64)
		states(t, c, map[int]int{0: gone, 3: gone, 5: gone})
		if gives(t, c, other, 64); c.Left() != 100 || c.State() != api.StOpen {
			t.Fatalf("%d left, the state %d", c.Left(), c.State())
		}
		d, _ := other.Seal(9, nil)
		if e := c.Deliver(d); e != api.OK {
			t.Fatalf("Deliver: error %d", e)
		}
		gives(t, c, other, 64, sent{9, api.FrData, 0, 100})
	}
}

// P22.3: the last record of an epoch goes, with the last counter.
func TestLastRecord(t *testing.T) {
	for role := range 2 {
		c, _ := met(t, role)
		c.Write(make([]byte, 100))
		skip(t, c, 0, api.MaxCounter)
		l, e := c.Poll(64)
		if e != api.OK || len(l) != 1 {
			t.Fatalf("Poll: %d records, error %d", len(l), e)
		}
		if p, e := packet.Parse(l[0]); e != api.OK || p.Counter != 1<<48-1 || p.Path != 0 {
			t.Fatalf("Parse: %+v, error %d", p, e)
		}
		if p := c.Path(0); p.Under != 1 || p.State != live {
			t.Fatalf("%+v", p)
		}
		c.Write(make([]byte, 5))
		l, _ = c.Poll(1)
		states(t, c, map[int]int{0: gone, 3: live})
		if len(l) != 0 {
			t.Fatalf("%d records", len(l))
		}
		l, _ = c.Poll(1)
		p, _ := packet.Parse(l[0])
		if len(l) != 1 || p.Path != 3 || p.Counter != 0 || c.Path(3).Under != 1 {
			t.Fatalf("%d records, %+v, %+v", len(l), p, c.Path(3))
		}
	}
}

// P22.3: a record that is due, and a challenge, where nothing can be sealed: the path is removed, and the others go on.
func TestDueRefused(t *testing.T) {
	for role := range 2 {
		c, other := met(t, role)
		c.Write(make([]byte, 200))
		gives(t, c, other, 64, sent{0, api.FrData, 0, 128}, sent{0, api.FrData, 128, 72})
		for _, id := range []int{3, 0, 5} {
			text, _ := frames.Encode([]api.Frame{{Kind: api.FrUpdate}})
			d, _ := other.Seal(id, text)
			c.Deliver(d)
		}
		c.Add(4, [8]byte{1})
		c.Add(7, [8]byte{2})
		skip(t, c, 0, beyond)
		skip(t, c, 5, beyond)
		skip(t, c, 7, beyond)
		gives(t, c, other, 64, sent{4, api.FrChallenge, 0, 0}, sent{3, api.FrGot, 1, 0}, sent{3, api.FrAck, 0, 0},
			sent{3, api.FrData, 0, 128}, sent{3, api.FrData, 128, 72})
		states(t, c, map[int]int{0: gone, 3: live, 4: api.PathNew, 5: gone, 7: gone})
		gives(t, c, other, 64)
		if e := c.Remove(7); e != api.ErrPath {
			t.Fatalf("Remove: error %d", e)
		}
		// In the next epoch the counters begin anew; what is gone stays so, and owes nothing.
		if e := c.Update(); e != api.OK {
			t.Fatalf("Update: error %d", e)
		}
		gives(t, c, other, 64, sent{3, api.FrUpdate, 1, 0}, sent{3, api.FrGot, 1, 0}, sent{3, api.FrAck, 0, 0},
			sent{3, api.FrData, 0, 128}, sent{3, api.FrData, 128, 72})
	}
}

// P22.5: the next epoch makes room for records again, on a path that is still live.
func TestUpdateMakesRoom(t *testing.T) {
	c, other := met(t, 0)
	skip(t, c, 0, beyond)
	c.Write(make([]byte, 10))
	if e := c.Update(); e != api.OK {
		t.Fatalf("Update: error %d", e)
	}
	ask := func(id int) []sent {
		return []sent{{id, api.FrUpdate, 1, 0}, {id, api.FrGot, 0, 0}, {id, api.FrAck, 0, 0}}
	}
	gives(t, c, other, 64, slices.Concat(ask(0), ask(3), ask(5), []sent{{0, api.FrData, 0, 10}})...)
}

// P22.6: a close that can't be sealed is one all the same: there is no record that tells it.
func TestCloseRefused(t *testing.T) {
	for role := range 2 {
		c, _ := met(t, role)
		skip(t, c, 0, beyond)
		if b, e := c.Close(3); len(b) != 0 || e != api.OK || c.State() != api.StClosed {
			t.Fatalf("Close: %x, error %d, the state %d", b, e, c.State())
		}
	}
}
