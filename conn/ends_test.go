package conn_test

import (
	"fmt"
	"math"
	"slices"
	"testing"

	"sheave/api"
	"sheave/conn"
)

// standing is an end in one of its states.
type standing struct {
	name string
	*hand
	state int
}

// standings are the ends of both roles in each of the states.
func standings(t *testing.T) []standing {
	t.Helper()
	var l []standing
	for role := range 2 {
		as := func(name string, h *hand, state int) {
			l = append(l, standing{fmt.Sprintf("role %d, %s", role, name), h.writes(3).holds(state), state})
		}
		closed := func(name string, h *hand) {
			t.Helper()
			h.writes(3)
			if _, e := h.c.Close(4); e != api.OK {
				t.Fatalf("Close: error %d", e)
			}
			l = append(l, standing{fmt.Sprintf("role %d, %s", role, name), h.holds(api.StClosed), api.StClosed})
		}
		as("begin", ahead(t, role).greetsLater(), api.StBegin)
		closed("closed at the beginning", ahead(t, role).greetsLater())
		if role == 0 {
			as("waits", ahead(t, 0).greets(), api.StWaits)
			closed("closed as it waited", ahead(t, 0).greets())
			a, _ := configs(api.Fastest)
			a.Public = api.Key{}
			h := aheadBy(t, a).writes(3)
			h.c.Poll(9)
			l = append(l, standing{"role 0, failed", h.greetsLater().holds(api.StFailed), api.StFailed})
		}
		as("open", facing(t, role), api.StOpen)
		h := facing(t, role).adds(9).updates().feeds(4, 5).ticks(30)
		as("busy", h, api.StOpen)
		closed("closed as it was open", facing(t, role).adds(9).feeds(4, 5))
		h = facing(t, role).writes(3).feeds(4, 5).gives(0, challenge(1), closing(6)).holds(api.StClosed)
		l = append(l, standing{fmt.Sprintf("role %d, closed by the other", role), h, api.StClosed})
	}
	return l
}

// greetsLater is a hand that has its hello, or the reply to one, ready, whatever the conn does.
func (h *hand) greetsLater() *hand {
	h.t.Helper()
	x := ahead(h.t, h.role).greets()
	h.hello, h.reply = x.hello, x.reply
	return h
}

func (h *hand) holds(state int) *hand {
	h.t.Helper()
	return h.state(state)
}

// call is one that can tell an error: what it told, and whether it told nothing else.
type call struct {
	name string
	make func(c *conn.Conn) (e api.Errno, nothing bool)
	want [3]api.Errno // in StBegin, StWaits, StOpen
}

func just(make func(c *conn.Conn) api.Errno) func(c *conn.Conn) (api.Errno, bool) {
	return func(c *conn.Conn) (api.Errno, bool) { return make(c), true }
}

// calls are those that can tell an error, with what each of them tells ahead of StClosed.
func calls(t *testing.T, h standing) []call {
	t.Helper()
	const ok, no = api.OK, api.ErrState
	record := facing(t, h.role).seals(0, data(0, stream(5)))
	if h.state == api.StOpen {
		record = h.hand.clone().seals(0, data(0, stream(5)))
	}
	hello, short, reply := [3]api.Errno{no, no, no}, [3]api.Errno{no, no, no}, [3]api.Errno{no, ok, no}
	if h.role == 1 {
		hello, short, reply = [3]api.Errno{ok, no, ok}, [3]api.Errno{api.ErrShort, no, no}, [3]api.Errno{no, no, no}
	}
	deliver := func(b []byte) func(c *conn.Conn) (api.Errno, bool) {
		return just(func(c *conn.Conn) api.Errno { return c.Deliver(b) })
	}
	l := []call{
		{"Write of none", func(c *conn.Conn) (api.Errno, bool) { n, e := c.Write(nil); return e, n == 0 }, [3]api.Errno{ok, ok, ok}},
		{"Write", func(c *conn.Conn) (api.Errno, bool) { n, e := c.Write(stream(9)); return e, n == 0 }, [3]api.Errno{ok, ok, ok}},
		{"Deliver of none", deliver(nil), [3]api.Errno{api.ErrShort, api.ErrShort, api.ErrShort}},
		{"Deliver of no packet", deliver([]byte{4, 4}), [3]api.Errno{api.ErrPacket, api.ErrPacket, api.ErrPacket}},
		{"Deliver of a hello", deliver(h.hello), hello},
		{"Deliver of a hello that is short", deliver(h.hello[:9]), short},
		{"Deliver of a record", deliver(record), [3]api.Errno{no, no, ok}},
		{"Deliver of a record that is short", deliver(record[:26]), [3]api.Errno{api.ErrShort, api.ErrShort, api.ErrShort}},
	}
	if h.reply != nil {
		l = append(l, call{"Deliver of a reply", deliver(h.reply), reply})
	}
	for _, n := range []int{math.MinInt, -1, 0, 1, math.MaxInt} {
		tick, closes := ok, ok
		if n < 0 {
			tick, closes = api.ErrArg, api.ErrArg
		}
		if n == math.MaxInt {
			closes = api.ErrArg
		}
		l = append(l,
			call{fmt.Sprintf("Read(%d)", n), func(c *conn.Conn) (api.Errno, bool) { b, e := c.Read(n); return e, len(b) == 0 }, [3]api.Errno{ok, ok, ok}},
			call{fmt.Sprintf("Tick(%d)", n), just(func(c *conn.Conn) api.Errno { return c.Tick(n) }), [3]api.Errno{tick, tick, tick}},
			call{fmt.Sprintf("Poll(%d)", n), func(c *conn.Conn) (api.Errno, bool) { l, e := c.Poll(n); return e, len(l) == 0 }, [3]api.Errno{ok, ok, ok}},
			call{fmt.Sprintf("Close(%d)", n), func(c *conn.Conn) (api.Errno, bool) { b, e := c.Close(n); return e, len(b) == 0 },
				[3]api.Errno{closes, closes, closes}})
	}
	for id, e := range map[int]api.Errno{-1: api.ErrArg, 0: api.ErrUsed, 100: ok, 256: api.ErrArg} {
		l = append(l, call{fmt.Sprintf("Add(%d)", id), just(func(c *conn.Conn) api.Errno { return c.Add(id, token(1)) }), [3]api.Errno{no, no, e}})
	}
	for id, e := range map[int]api.Errno{-1: api.ErrPath, 0: ok, 100: api.ErrPath, 256: api.ErrPath} {
		l = append(l, call{fmt.Sprintf("Remove(%d)", id), just(func(c *conn.Conn) api.Errno { return c.Remove(id) }), [3]api.Errno{no, no, e}})
	}
	updates := ok
	if out, _ := h.c.Epochs(); out == 1 {
		updates = no
	}
	return append(l, call{"Update", just((*conn.Conn).Update), [3]api.Errno{no, no, updates}})
}

// P22.1 to P22.6: each call in each of the states: what it tells; with an error nothing else, and nothing is changed.
func TestEachCallInEachState(t *testing.T) {
	t.Parallel()
	for _, h := range standings(t) {
		for _, x := range calls(t, h) {
			want := api.ErrClosed
			if h.state <= api.StOpen {
				want = x.want[h.state]
			}
			c := h.c.Clone()
			before := deep(c)
			e, nothing := x.make(c)
			if e != want {
				t.Errorf("%s: %s: error %d, not %d", h.name, x.name, e, want)
			}
			if e == api.OK {
				continue
			}
			if !nothing {
				t.Errorf("%s: %s answers something beside the error %d", h.name, x.name, e)
			}
			if deep(c) != before {
				t.Errorf("%s: %s changes something beside the error %d", h.name, x.name, e)
			}
		}
	}
}

// P22.1: what an end tells of itself stays as it was behind a close: only the state is another one.
func TestTellsAtTheEnd(t *testing.T) {
	h := facing(t, 0).adds(9).gives(4).writes(300).ticks(30).updates()
	h.polls(9, "9.1.0: challenge 9", "0.1.0: update 1, ack 0 of 2048", "4.1.0: update 1, got 0 in 0, ack 0 of 2048",
		"0.1.1: data 0-128", "0.1.2: data 128-256", "0.1.3: data 256-300")
	if b, e := h.c.Close(8); e != api.OK || h.text(b) != "0.1.4: close 8" {
		t.Fatalf("Close: %x, error %d", b, e)
	}
	h.state(api.StClosed).left(300).epochs(1, 0).path(0, api.PathLive, 100, 4, 3).path(4, api.PathLive, 100, 4, 0).path(9, api.PathNew, 100, 0, 0)
	if h.c.Clock() != 30 || h.c.Why() != 0 {
		t.Errorf("the clock %d, why %d", h.c.Clock(), h.c.Why())
	}
}

// P22.5: Add of each number: those at the edges, and one that is there, or was.
func TestAdd(t *testing.T) {
	for role := range 2 {
		h := facing(t, role).gives(7)
		for _, id := range append(edges(), -256, 256, 257, 1<<32) {
			h.changesNothing("Add", func() { h.is("Add", h.c.Add(id, token(1)), api.ErrArg) })
		}
		for _, id := range []int{0, 7} {
			h.changesNothing("Add", func() { h.is("Add", h.c.Add(id, token(1)), api.ErrUsed) })
		}
		h.adds(255).adds(1).path(255, api.PathNew, 100, 0, 0).removes(7).removes(1)
		for _, id := range []int{1, 7, 255} {
			h.changesNothing("Add", func() { h.is("Add", h.c.Add(id, token(2)), api.ErrUsed) })
		}
		for id := range 14 {
			h.adds(100 + id)
		}
		h.changesNothing("Add", func() { h.is("Add", h.c.Add(99, token(1)), api.ErrLong) })
		h.removes(107).adds(99).is("Add", h.c.Add(98, token(1)), api.ErrLong)
	}
}

// P22.5: Add is at the clock: the path is due from that moment on, and again 200 ticks behind its first challenge.
func TestAddAtTheClock(t *testing.T) {
	h := facing(t, 0).ticks(1000).adds(3).polls(9, "3.0.0: challenge 3").ticks(199).quiet().ticks(1).polls(9, "3.0.1: challenge 3")
	h.ticks(math.MaxInt).adds(4).polls(9, "3.0.2: challenge 3", "4.0.0: challenge 4").ticks(900).quiet()
}

// P22.5: Remove of each number; what is under way there is lost, and goes on another path.
func TestRemove(t *testing.T) {
	for role := range 2 {
		h := facing(t, role).adds(9).polls(9, "9.0.0: challenge 9")
		for _, id := range append(edges(), -256, 256, 257, 1<<32, 1, 255) {
			h.changesNothing("Remove", func() { h.is("Remove", h.c.Remove(id), api.ErrPath) })
		}
		h.writes(300).polls(2, "0.0.0: data 0-128", "0.0.1: data 128-256").gives(0, ack(0, 0, 100, 150)).quietAfter(1, "0.0.2: data 256-300")
		h.removes(0).path(0, api.PathGone, 100, 0, 0).quiet().gives(9, response(9)).path(9, api.PathLive, 100, 4, 0)
		h.polls(9, "9.0.1: data 0-100", "9.0.2: data 150-278", "9.0.3: data 278-300").quiet()
		h.changesNothing("Remove", func() { h.is("Remove", h.c.Remove(0), api.ErrPath) })
		h.adds(10).removes(10).is("Remove", h.c.Remove(10), api.ErrPath)
		h.quiet().removes(9).is("Remove", h.c.Remove(9), api.ErrPath)
	}
}

// quietAfter is one Poll, and then one of which nothing comes.
func (h *hand) quietAfter(most int, want ...string) *hand {
	h.t.Helper()
	return h.polls(most, want...).quiet()
}

// P22.5: Update goes on to the next epoch, once; again when the other end is known to have come to it.
func TestUpdate(t *testing.T) {
	for role := range 2 {
		h := facing(t, role).updates().epochs(1, 0)
		h.changesNothing("Update", func() { h.is("Update", h.c.Update(), api.ErrState) })
		h.polls(9, "0.1.0: update 1, ack 0 of 2048").quiet()
		// What the other end says of another epoch, or of something else, does not tell that it came.
		h.gives(0, got(0, 0), got(5, 2), ack(0, 0), update(1)).polls(9, "0.1.1: got 0 in 0, ack 0 of 2048")
		h.is("Update", h.c.Update(), api.ErrState)
		h.gives(0, got(0, 1)).updates().epochs(2, 0).is("Update", h.c.Update(), api.ErrState)
		h.polls(9, "0.2.0: update 2, got 1 in 0 0-1, ack 0 of 2048").gives(0, got(0, 1)).is("Update", h.c.Update(), api.ErrState)
		h.gives(77, got(9, 2)).updates().epochs(3, 0).polls(9, "0.3.0: update 3, got 2 in 0 0-2, ack 0 of 2048", "77.3.0: update 3, got 0 in 0, ack 0 of 2048")
	}
}

// P22.5: data under way as the epoch goes on are lost, and go again; those that arrive all the same do no harm.
func TestUpdateUnderWay(t *testing.T) {
	for role := range 2 {
		h := facing(t, role).writes(300)
		l, e := h.c.Poll(9)
		h.is("Poll", e, api.OK)
		h.path(0, api.PathLive, 100, 4, 3).updates().path(0, api.PathLive, 100, 4, 0).left(300)
		h.polls(9, "0.1.0: update 1, ack 0 of 2048", "0.1.1: data 0-128", "0.1.2: data 128-256", "0.1.3: data 256-300").quiet()
		for i, b := range l { // the hand opens them, though it went on to the next epoch already
			want := fmt.Sprintf("0.0.%d: data %d-%d", i, 128*i, min(128*i+128, 300))
			if got := h.text(b); got != want {
				t.Fatalf("%s, not %s", got, want)
			}
		}
		// What the hand says of the records of the epoch ahead tells nothing of those that are under way now.
		h.gives(0, got(2, 0, 0, 2)).path(0, api.PathLive, 100, 4, 3).gives(0, ack(128, 2048)).left(172)
		h.gives(0, got(3, 1, 0, 2)).path(0, api.PathLive, 87, 6, 1).ticks(311).quietAfter(9, "0.1.4: data 128-256").left(172)
	}
}

// P22.5: several live paths: each is open anew, and an update frame is due on each; not on one that is new, or has gone.
func TestUpdateOnEach(t *testing.T) {
	a, b := configs(api.Turns)
	for _, c := range []api.Config{a, b} {
		h := facingBy(t, c).gives(5).gives(255).gives(8).removes(8).adds(9).polls(9, "9.0.0: challenge 9").writes(300)
		h.polls(9, "0.0.0: data 0-128", "5.0.0: data 128-256", "255.0.0: data 256-300").gives(255, challenge(1)).gives(9, update(0)).updates()
		for _, id := range []int{0, 5, 255} {
			h.path(id, api.PathLive, 100, 4, 0)
		}
		h.path(8, api.PathGone, 100, 0, 0).path(9, api.PathNew, 100, 0, 0)
		h.polls(9, "0.1.0: update 1, ack 0 of 2048", "5.1.0: update 1, got 0 in 0, ack 0 of 2048", "9.1.0: got 0 in 0, ack 0 of 2048",
			"255.1.0: response 1, update 1, got 1 in 0 0-1, ack 0 of 2048", "0.1.1: data 0-128", "5.1.1: data 128-256", "255.1.1: data 256-300").quiet()
		h.ticks(200).polls(9, "9.1.1: challenge 9").gives(9, response(9)).path(9, api.PathLive, 100, 4, 0)
	}
	// With no live path there is nobody to tell.
	facing(t, 0).removes(0).updates().epochs(1, 0).quiet().gives(4).quiet().writes(1).polls(9, "4.1.0: data 0-1")
}

// P22.5: at the last epoch there is no next one, and what was still goes on.
func TestLastEpoch(t *testing.T) {
	t.Parallel()
	h := facing(t, 1)
	for n := range 65535 {
		l, _ := h.updates().c.Poll(0)
		_, _, _, e := h.g.Open(l[0])
		h.is("Open", e, api.OK)
		h.gives(0, got(0, n+1))
	}
	h.epochs(65535, 0).writes(200)
	h.changesNothing("Update", func() { h.is("Update", h.c.Update(), api.ErrExhausted) })
	h.polls(9, "0.65535.1: data 0-128", "0.65535.2: data 128-200").is("Update", h.c.Update(), api.ErrExhausted)
	h.path(0, api.PathLive, 100, 4, 2).feeds(0, 4).reads(9, 0, 4)
}

// P22.6: Close with each number at the edges; the record with a close frame on the first live path; twice.
func TestClose(t *testing.T) {
	for role := range 2 {
		h := facing(t, role).gives(7).gives(200).adds(3).writes(9).removes(0)
		for _, why := range []int{math.MinInt, math.MinInt + 1, -5, -1, 1 << 62, math.MaxInt} {
			h.changesNothing("Close", func() {
				if b, e := h.c.Close(why); b != nil || e != api.ErrArg {
					t.Fatalf("Close(%d): %x, error %d", why, b, e)
				}
			})
		}
		for _, why := range []int{0, 1, 63, 64, 1<<62 - 1} {
			x := h.clone()
			b, e := x.c.Close(why)
			if want := fmt.Sprintf("7.0.0: close %d", why); e != api.OK || x.text(b) != want {
				t.Fatalf("Close(%d): %x, error %d", why, b, e)
			}
			x.state(api.StClosed)
			x.changesNothing("Close again", func() {
				if b, e := x.c.Close(why); b != nil || e != api.ErrClosed {
					t.Fatalf("Close again: %x, error %d", b, e)
				}
			})
		}
		// With no live path, and ahead of StOpen, there is none.
		h.removes(7).removes(200)
		for _, x := range []*hand{h, ahead(t, role), ahead(t, role).greetsLater()} {
			if b, e := x.c.Close(1<<62 - 1); len(b) != 0 || e != api.OK || x.c.State() != api.StClosed {
				t.Fatalf("Close: %x, error %d, state %d", b, e, x.c.State())
			}
		}
	}
	h := ahead(t, 0).greets()
	if b, e := h.c.Close(0); len(b) != 0 || e != api.OK || h.c.State() != api.StClosed {
		t.Fatalf("Close: %x, error %d, state %d", b, e, h.c.State())
	}
}

// P22.6, R7: neither of two clones sees what is done to the other, in each state.
func TestClone(t *testing.T) {
	t.Parallel()
	for _, h := range standings(t) {
		want := deep(h.c)
		for _, x := range calls(t, h) {
			one, two := h.c.Clone(), h.c.Clone()
			x.make(one)
			if got := deep(h.c); got != want {
				t.Fatalf("%s: %s of a clone is seen: %s\nnot %s", h.name, x.name, got, want)
			}
			same := deep(one)
			x.make(two)
			if got := deep(two); got != same {
				t.Fatalf("%s: %s of another clone: %s\nnot %s", h.name, x.name, got, same)
			}
			three := one.Clone()
			x.make(one)
			if got := deep(three); got != same {
				t.Fatalf("%s: %s of the first is seen: %s\nnot %s", h.name, x.name, got, same)
			}
		}
	}
}

// P22.6, R7: clones of one that has things due, each of which gets others then.
func TestClonesOwe(t *testing.T) {
	h := facing(t, 1).gives(5, challenge(1)).gives(0, challenge(2))
	one, two := h.clone(), h.clone()
	one.gives(5, challenge(10), challenge(11)).gives(6, challenge(12))
	two.gives(5, challenge(20)).gives(0, challenge(21)).gives(7, update(0))
	three := two.clone().gives(0, challenge(30))
	h.polls(9, "0.0.0: response 2, got 0 in 0, ack 0 of 2048", "5.0.0: response 1, got 0 in 0, ack 0 of 2048").quiet()
	one.polls(9, "0.0.0: response 2, got 0 in 0, ack 0 of 2048", "5.0.0: response 1, response 10, response 11, got 1 in 0 0-1, ack 0 of 2048",
		"6.0.0: response 12, got 0 in 0, ack 0 of 2048").quiet()
	two.polls(9, "0.0.0: response 2, response 21, got 1 in 0 0-1, ack 0 of 2048", "5.0.0: response 1, response 20, got 1 in 0 0-1, ack 0 of 2048",
		"7.0.0: got 0 in 0, ack 0 of 2048").quiet()
	three.polls(9, "0.0.0: response 2, response 21, response 30, got 2 in 0 0-2, ack 0 of 2048",
		"5.0.0: response 1, response 20, got 1 in 0 0-1, ack 0 of 2048", "7.0.0: got 0 in 0, ack 0 of 2048").quiet()
}

// P22.1, R1: one that was declared, and not made, panics at nothing; it can't begin.
func TestDeclared(t *testing.T) {
	for _, c := range []*conn.Conn{new(conn.Conn), new(conn.Conn).Clone()} {
		if got := see(c); got != "state 0, clock 0, why 0, left 0, epochs 0 0" {
			t.Error(got)
		}
		if e := c.Deliver(append([]byte{1}, stream(96)...)); e != api.ErrState {
			t.Errorf("Deliver: error %d", e)
		}
		c.Write(stream(9))
		c.Read(9)
		c.Tick(500)
		for _, e := range []api.Errno{c.Add(1, token(1)), c.Remove(0), c.Update()} {
			if e != api.ErrState {
				t.Errorf("error %d", e)
			}
		}
		if l, e := c.Poll(9); len(l) != 0 || e != api.ErrState || c.State() != api.StFailed {
			t.Errorf("Poll: %x, error %d", l, e)
		}
		if _, e := c.Close(1); e != api.ErrClosed {
			t.Errorf("Close: error %d", e)
		}
	}
}

// P22.3, R6: the same calls are answered the same way each time.
func TestSameEachTime(t *testing.T) {
	row := func() []byte {
		h := facing(t, 1).adds(9).adds(200).writes(700)
		for id := range 12 {
			h.gives(20*id, challenge(id), data(id, stream(id + 1)[id:]))
		}
		l, _ := h.c.Poll(64)
		h.reads(5, 0, 5).ticks(400)
		more, _ := h.c.Poll(64)
		return slices.Concat(slices.Concat(l...), slices.Concat(more...))
	}
	want := row()
	for range 20 {
		if got := row(); !slices.Equal(got, want) {
			t.Fatalf("%x, not %x", got, want)
		}
	}
}
