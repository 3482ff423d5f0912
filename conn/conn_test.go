package conn_test

import (
	"bytes"
	"fmt"
	"math"
	"testing"

	"sheave/api"
	"sheave/conn"
)

// polled is what a Poll gives, all of it delivered to another end.
func polled(t *testing.T, from, to *conn.Conn) [][]byte {
	t.Helper()
	l, e := from.Poll(9)
	if e != api.OK {
		t.Fatalf("Poll: error %d", e)
	}
	for _, b := range l {
		if e := to.Deliver(b); e != api.OK {
			t.Fatalf("Deliver: error %d", e)
		}
	}
	return l
}

// sizes holds datagrams to how many bytes each of them must have.
func sizes(t *testing.T, l [][]byte, want ...int) {
	t.Helper()
	var have []int
	for _, b := range l {
		have = append(have, len(b))
	}
	if fmt.Sprint(have) != fmt.Sprint(want) {
		t.Fatalf("datagrams of %d bytes, not %d", have, want)
	}
}

// P22.1 to P22.6: the chapter's examples.
func TestExamples(t *testing.T) {
	x, y := configs(api.Fastest)
	a, b := conn.New(x), conn.New(y)
	sizes(t, polled(t, a, b), 97)
	sizes(t, polled(t, b, a), 49)
	if a.State() != api.StOpen || b.State() != api.StOpen {
		t.Fatalf("the states %d and %d", a.State(), b.State())
	}
	if n, e := a.Write([]byte("hello")); n != 5 || e != api.OK {
		t.Fatalf("Write: %d, error %d", n, e)
	}
	sizes(t, polled(t, a, b), 35)
	if s, e := b.Read(9); string(s) != "hello" || e != api.OK {
		t.Fatalf("Read: %q, error %d", s, e)
	}
	if l := polled(t, b, a); len(l) != 1 || a.Left() != 0 {
		t.Fatalf("%d records, %d left", len(l), a.Left())
	}
	r, e := a.Close(7)
	if len(r) != 29 || e != api.OK || b.Deliver(r) != api.OK || b.Why() != 7 {
		t.Fatalf("Close: %x, error %d, why %d", r, e, b.Why())
	}
	if n, e := b.Write([]byte("x")); n != 0 || e != api.ErrClosed {
		t.Fatalf("Write at the end: %d, error %d", n, e)
	}
}

// P22.1: a new end is at its beginning, whatever its role and policy.
func TestNew(t *testing.T) {
	for _, role := range append(edges(), 0, 1, 2, 7) {
		for _, policy := range []int{0, 1, 2, -1} {
			c := conn.New(api.Config{Role: role, Secret: api.Key{1}, Policy: policy})
			if got := see(c); got != "state 0, clock 0, why 0, left 0, epochs 0 0" {
				t.Errorf("role %d, policy %d: %s", role, policy, got)
			}
		}
	}
}

// P22.1, P22.3, P22.4: who has the role 0 begins; one of another role awaits, and is the same to the other end as one of the role 1.
func TestRoles(t *testing.T) {
	facing(t, 0).writes(5).polls(9, "0.0.0: data 0-5")
	_, y := configs(api.Fastest)
	want := facingBy(t, y)
	for _, role := range append(edges(), 1, 2, 7, 256) {
		y.Role = role
		h := aheadBy(t, y).quiet().state(api.StBegin)
		h.meets().state(api.StOpen)
		if !bytes.Equal(h.reply, want.reply) {
			t.Errorf("the role %d: the reply %x, not %x", role, h.reply, want.reply)
		}
		h.writes(5).polls(9, "0.0.0: data 0-5").feeds(0, 9).reads(20, 0, 9).polls(9, "0.0.1: got 0 in 0, ack 9 of 2057")
	}
}

// P22.1, P22.3: the policy is that of the sched.
func TestPolicies(t *testing.T) {
	for _, x := range []struct {
		policy int
		paths  []int
	}{{api.Fastest, []int{0, 0, 0, 0, 3, 3, 3, 3}}, {api.Turns, []int{0, 3, 0, 3, 0, 3, 0, 3}}, {2, []int{0, 0, 0, 0, 3, 3, 3, 3}}} {
		a, b := configs(x.policy)
		for _, c := range []api.Config{a, b} {
			h := facingBy(t, c).gives(3).writes(1500)
			var want []string
			counters := map[int]int{}
			for i, id := range x.paths {
				want = append(want, fmt.Sprintf("%d.0.%d: data %d-%d", id, counters[id], 128*i, 128*i+128))
				counters[id]++
			}
			h.polls(64, want...).quiet()
		}
	}
}

// P22.1: what the other one's close frame said; an own Close says nothing of it.
func TestWhy(t *testing.T) {
	for role := range 2 {
		for _, why := range []int{0, 1, 7, 1<<62 - 1} {
			h := facing(t, role)
			if h.c.Why() != 0 {
				t.Errorf("ahead of it: %d", h.c.Why())
			}
			h.gives(0, closing(why)).state(api.StClosed)
			if h.c.Why() != why {
				t.Errorf("Why: %d, not %d", h.c.Why(), why)
			}
			h = facing(t, role)
			if _, e := h.c.Close(why); e != api.OK || h.c.Why() != 0 {
				t.Errorf("Close(%d): error %d, why %d", why, e, h.c.Why())
			}
		}
	}
}

// P22.1: how many bytes of those that were written have yet to arrive, be they under way or not.
func TestLeft(t *testing.T) {
	for role := range 2 {
		h := ahead(t, role).left(0).writes(10).left(10).meets().left(10)
		h.polls(9, "0.0.0: data 0-10").left(10)
		h.gives(0, ack(0, 3000, 1, 3, 5, 10)).left(10)
		h.gives(0, ack(1, 3000)).left(7).writes(200).left(207)
		h.polls(9, "0.0.1: data 10-138", "0.0.2: data 138-210").left(207)
		h.gives(0, ack(138, 3000)).left(72).gives(0, ack(138, 3000, 139, 210)).left(72).gives(0, ack(139, 3000)).left(0)
	}
}

// P22.1: both epochs, each of which goes on by itself.
func TestEpochs(t *testing.T) {
	for role := range 2 {
		h := ahead(t, role).epochs(0, 0).greets().epochs(0, 0)
		if role == 0 {
			h.delivers(api.OK, h.reply).knows()
		} else {
			h = facing(t, 1)
		}
		h.epochs(0, 0).updates().epochs(1, 0)
		h.is("Advance", h.g.Advance(), api.OK)
		h.epochs(1, 0).gives(0).epochs(1, 1)
		h.gives(0, got(0, 1)).updates().epochs(2, 1)
		if _, e := h.c.Close(0); e != api.OK {
			t.Fatal(e)
		}
		h.epochs(2, 1)
	}
	for role := range 2 {
		h := ahead(t, role)
		h.c.Close(0)
		h.epochs(0, 0)
	}
}

// P22.1: a path as it stands, whatever its number is.
func TestPath(t *testing.T) {
	for role := range 2 {
		h := ahead(t, role)
		numbers := append(edges(), -2, 256, 257, 1<<32, 0, 1, 5, 255)
		for _, id := range numbers {
			h.path(id, api.PathNone, 0, 0, 0)
		}
		h.meets().adds(5).adds(255).gives(1)
		for _, id := range numbers[:len(numbers)-4] {
			h.path(id, api.PathNone, 0, 0, 0)
		}
		h.path(0, api.PathLive, 100, 4, 0).path(1, api.PathLive, 100, 4, 0).path(2, api.PathNone, 0, 0, 0)
		h.path(5, api.PathNew, 100, 0, 0).path(255, api.PathNew, 100, 0, 0)
		h.gives(5, response(5)).path(5, api.PathLive, 100, 4, 0)
		h.writes(300).polls(64, "255.0.0: challenge 255", "0.0.0: data 0-128", "0.0.1: data 128-256", "0.0.2: data 256-300")
		h.path(0, api.PathLive, 100, 4, 3).ticks(20).gives(0, got(1, 0, 0, 1)).path(0, api.PathLive, 90, 6, 1)
		h.removes(0).path(0, api.PathGone, 90, 0, 0).removes(255).path(255, api.PathGone, 100, 0, 0)
		h.ticks(5000).polls(0).path(1, api.PathLive, 100, 4, 0)
	}
}

// P22.2: as many of the bytes as there is room for are taken, in each state but the last ones.
func TestWrite(t *testing.T) {
	for role := range 2 {
		for _, h := range []*hand{ahead(t, role), facing(t, role)} {
			for _, x := range []struct{ many, took, left int }{
				{0, 0, 0}, {1, 1, 1}, {0, 0, 1}, {2046, 2046, 2047}, {2, 1, 2048}, {1, 0, 2048}, {5000, 0, 2048}, {0, 0, 2048},
			} {
				if n, e := h.c.Write(make([]byte, x.many)); n != x.took || e != api.OK {
					t.Fatalf("Write of %d: %d, error %d", x.many, n, e)
				}
				h.left(x.left)
			}
			if n, e := h.c.Write(nil); n != 0 || e != api.OK {
				t.Fatalf("Write of none: %d, error %d", n, e)
			}
		}
		h := facing(t, role)
		if n, e := h.c.Write(make([]byte, 3000)); n != 2048 || e != api.OK {
			t.Fatalf("Write of more than there is room for: %d, error %d", n, e)
		}
		h = facing(t, role).writes(2048)
		h.c.Poll(64)
		h.gives(0, ack(100, 2048)).writes(100).left(2048)
	}
}

// P22.2: what was written ahead of the handshake goes behind it.
func TestWriteAhead(t *testing.T) {
	for role := range 2 {
		ahead(t, role).writes(130).meets().writes(2).polls(9, "0.0.0: data 0-128", "0.0.1: data 128-132").quiet()
	}
}

// P22.2: Read reads what is there, at most so many.
func TestRead(t *testing.T) {
	for role := range 2 {
		h := ahead(t, role).reads(9, 0, 0).meets().reads(9, 0, 0).feeds(0, 100)
		for _, most := range []int{math.MinInt, -1, 0} {
			h.reads(most, 0, 0)
		}
		h.reads(1, 0, 1).reads(0, 1, 0).reads(98, 1, 98).reads(math.MaxInt, 99, 1).reads(math.MaxInt, 100, 0)
		h.gives(0, data(101, []byte{1})).reads(9, 100, 0).gives(0, data(100, stream(101)[100:])).reads(1, 100, 1)
		if b, e := h.c.Read(9); len(b) != 1 || b[0] != 1 || e != api.OK {
			t.Fatalf("Read: %x, error %d", b, e)
		}
	}
}

// P22.2: no more is taken than there is room for, 2048 ahead of what was read.
func TestRoom(t *testing.T) {
	h := facing(t, 1)
	for range 17 {
		h.feeds(0, 120)
	}
	h.gives(0, data(2040, stream(2060)[2040:])).polls(9, "0.0.0: got 17 in 0 0-17, ack 2048 of 2048")
	h.reads(5000, 0, 2048).polls(9, "0.0.1: got 17 in 0 0-17, ack 2048 of 4096")
}

// P22.2, P22.3: behind a Read that was not empty all live paths have something due, once; behind one that was, nothing.
func TestWider(t *testing.T) {
	for role := range 2 {
		h := facing(t, role).adds(9).gives(200).feeds(3, 10)
		h.polls(9, "9.0.0: challenge 9", "3.0.0: got 0 in 0, ack 10 of 2048")
		for _, most := range []int{math.MinInt, -1, 0} {
			h.reads(most, 0, 0).quiet()
		}
		h.reads(4, 0, 4).reads(0, 0, 0)
		h.polls(9, "0.0.0: ack 10 of 2052", "3.0.1: got 0 in 0, ack 10 of 2052", "200.0.0: got 0 in 0, ack 10 of 2052").quiet()
		h.reads(9, 4, 6).polls(math.MinInt, "0.0.1: ack 10 of 2058", "3.0.2: got 0 in 0, ack 10 of 2058", "200.0.1: got 0 in 0, ack 10 of 2058")
		h.quiet().reads(9, 0, 0).quiet()
	}
	// With no live path it is told nobody, and not due any more.
	facing(t, 0).feeds(0, 3).polls(9, "0.0.0: got 0 in 0, ack 3 of 2048").removes(0).reads(9, 0, 3).quiet().gives(1).quiet()
}

// P22.2: Tick below 0 is refused; the clock goes on, as far as it goes.
func TestTick(t *testing.T) {
	for role := range 2 {
		for _, h := range []*hand{ahead(t, role), ahead(t, role).greets(), facing(t, role)} {
			for _, n := range []int{math.MinInt, math.MinInt + 1, -1 << 40, -1} {
				h.changesNothing("Tick", func() { h.is("Tick", h.c.Tick(n), api.ErrArg) })
			}
			for _, x := range []struct{ n, clock int }{
				{0, 0}, {1, 1}, {0, 1}, {1<<40 - 3, 1<<40 - 2}, {1, 1<<40 - 1}, {2, 1 << 40}, {0, 1 << 40}, {1, 1 << 40}, {math.MaxInt, 1 << 40},
			} {
				if h.ticks(x.n); h.c.Clock() != x.clock {
					t.Fatalf("Tick(%d): the clock is %d, not %d", x.n, h.c.Clock(), x.clock)
				}
			}
			h.is("Tick", h.c.Tick(-1), api.ErrArg)
		}
		h := facing(t, role).ticks(3).ticks(math.MaxInt)
		if h.c.Clock() != 1<<40 {
			t.Fatalf("the clock is %d", h.c.Clock())
		}
	}
}

// P22.2: what is late is lost, by 3 times the RTT and 50, and the RTT goes up by a sample of 8 times of it; that of other paths stays.
func TestLate(t *testing.T) {
	for role := range 2 {
		h := facing(t, role).gives(7).writes(10).ticks(5).polls(9, "0.0.0: data 0-10").ticks(300).writes(10).polls(9, "0.0.1: data 10-20")
		h.ticks(49).quiet().path(0, api.PathLive, 100, 4, 2)
		h.ticks(1).path(0, api.PathLive, 187, 2, 1).path(7, api.PathLive, 100, 4, 0)
		h.polls(9, "7.0.0: data 0-10").quiet() // the path 7 has the less RTT now
		h.ticks(349).path(7, api.PathLive, 100, 4, 1).ticks(1).path(7, api.PathLive, 187, 2, 0)
		h.path(0, api.PathLive, 187, 2, 1).polls(9, "0.0.2: data 0-10")
		h.ticks(210).path(0, api.PathLive, 187, 2, 2).ticks(1).path(0, api.PathLive, 350, 2, 1)
		h.polls(9, "7.0.1: data 10-20")
	}
}

// P22.2: the age is at most 1000.
func TestLateAtMost(t *testing.T) {
	h := facing(t, 0).writes(10)
	n := 0
	for _, x := range []struct{ age, rtt int }{{350, 187}, {611, 350}, {1000, 656}, {1000, 1230}, {1000, 2306}} {
		h.polls(9, fmt.Sprintf("0.0.%d: data 0-10", n)).ticks(x.age - 1).quiet()
		before := h.c.Path(0)
		h.ticks(0)
		if h.c.Path(0) != before {
			t.Fatalf("%d ticks on, a tick ahead of it: %+v", x.age-1, h.c.Path(0))
		}
		h.ticks(1).path(0, api.PathLive, x.rtt, 2, 0)
		n++
	}
	// So it goes on, up to 2^40.
	for rtt := 2306; n < 300; n++ {
		h.polls(9, fmt.Sprintf("0.0.%d: data 0-10", n)).ticks(1000)
		rtt = (7*rtt + min(8*rtt, 1<<40)) / 8
		h.path(0, api.PathLive, rtt, 2, 0)
	}
}

// P22.2: Tick(0) lets go of what is late, too: here since the RTT went down as the record was under way.
func TestTickOfNothing(t *testing.T) {
	h := facing(t, 0).writes(1).polls(9, "0.0.0: data 0-1").ticks(340).writes(1).polls(9, "0.0.1: data 1-2")
	h.gives(0, got(1, 0)).path(0, api.PathLive, 87, 5, 1).quiet()
	h.ticks(0).path(0, api.PathLive, 163, 2, 0).polls(9, "0.0.2: data 0-1")
}

// P22.2: on each live path, by its own RTT; and what is lost on one goes on another.
func TestLateOnEach(t *testing.T) {
	a, _ := configs(api.Turns)
	h := facingBy(t, a).gives(4).gives(6).writes(3 * 128)
	h.polls(9, "0.0.0: data 0-128", "4.0.0: data 128-256", "6.0.0: data 256-384").ticks(10).gives(4, got(0, 0)).path(4, api.PathLive, 88, 5, 0)
	h.writes(256).polls(9, "0.0.1: data 384-512", "4.0.1: data 512-640").ticks(313).path(4, api.PathLive, 88, 5, 1)
	h.ticks(1).path(4, api.PathLive, 165, 2, 0).path(0, api.PathLive, 100, 4, 2).path(6, api.PathLive, 100, 4, 1)
	h.ticks(26).path(0, api.PathLive, 187, 2, 1).path(6, api.PathLive, 187, 2, 0)
	h.polls(9, "6.0.1: data 0-128", "0.0.2: data 256-384", "4.0.2: data 512-640")
}
