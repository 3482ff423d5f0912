package conn_test

import (
	"bytes"
	"fmt"
	"math"
	"slices"
	"testing"

	"sheave/api"
	"sheave/conn"
)

// mosts are numbers that a Poll may be given.
var mosts = []int{math.MinInt, -1, 0, 1, 2, 63, 64, 65, math.MaxInt}

// P22.3: the hello at the first Poll, whenever that is and whatever most is; then 200 ticks behind the last one.
func TestHello(t *testing.T) {
	for _, most := range mosts {
		for _, start := range []int{0, 1, 77, 250} {
			h := ahead(t, 0).writes(9).ticks(start).state(api.StBegin)
			l, e := h.c.Poll(most)
			if e != api.OK || len(l) != 1 || len(l[0]) != 97 || l[0][0] != 1 {
				t.Fatalf("Poll(%d): %x, error %d", most, l, e)
			}
			h.state(api.StWaits).hello = l[0]
			h.polls(most).ticks(199).polls(most).ticks(0).polls(most).ticks(1).polls(most, "hello").polls(most)
			h.ticks(50).polls(most).ticks(400).polls(most, "hello").polls(most).ticks(199).polls(most).ticks(1).polls(most, "hello")
			h.state(api.StWaits).ticks(200).polls(most, "hello").left(9)
		}
	}
}

// P22.3: the message is that of the layer below, of no text, the same each time; behind the reply it goes no more.
func TestHelloIsTaken(t *testing.T) {
	h := ahead(t, 0).ticks(30).greets().ticks(200).polls(9, "hello").ticks(500)
	want, e := h.s.Clone().TakeFirst(h.hello[1:])
	if e != api.ErrState || want != nil {
		t.Fatalf("the hand took it: %x, error %d", want, e)
	}
	_, b := configs(api.Fastest)
	c := conn.New(b)
	if e := c.Deliver(h.hello); e != api.OK || c.State() != api.StOpen {
		t.Fatalf("Deliver: error %d", e)
	}
	h.delivers(api.OK, h.reply).knows().quiet().ticks(1000).quiet()
}

// P22.3: at the end of the clock the next hello is due behind it.
func TestHelloAtTheEnd(t *testing.T) {
	ahead(t, 0).ticks(1<<40-200).greets().ticks(199).quiet().ticks(1).polls(9, "hello").ticks(500).quiet()
}

// P22.3: an error of the handshake fails the end, and is told, without anything beside it.
func TestHelloFails(t *testing.T) {
	a, _ := configs(api.Fastest)
	for _, public := range []api.Key{{}, {1}} {
		a.Public = public
		for _, most := range mosts {
			c := conn.New(a)
			c.Write([]byte("x"))
			if l, e := c.Poll(most); e != api.ErrZero || l != nil || c.State() != api.StFailed {
				t.Fatalf("Poll: %x, error %d, state %d", l, e, c.State())
			}
			if l, e := c.Poll(most); e != api.ErrClosed || l != nil || c.State() != api.StFailed {
				t.Fatalf("Poll again: %x, error %d, state %d", l, e, c.State())
			}
		}
	}
}

// P22.3: ahead of the hello the other end gives nothing.
func TestAwaits(t *testing.T) {
	for _, most := range mosts {
		ahead(t, 1).polls(most).writes(100).ticks(300).polls(most).state(api.StBegin).reads(9, 0, 0).polls(most)
	}
}

// P22.3: the reply goes once, and once more when the same hello came again, be it once or often; ahead of all else.
func TestReply(t *testing.T) {
	for _, most := range mosts {
		h := ahead(t, 1).greets()
		h.delivers(api.OK, h.hello).state(api.StOpen)
		l, e := h.c.Poll(most)
		if e != api.OK || len(l) != 1 || len(l[0]) != 49 || l[0][0] != 2 {
			t.Fatalf("Poll(%d): %x, error %d", most, l, e)
		}
		h.reply = l[0]
		if _, e := h.s.TakeSecond(h.reply[1:]); e != api.OK {
			t.Fatalf("TakeSecond: error %d", e)
		}
		h.knows().polls(most).ticks(1000).polls(most)
		h.delivers(api.OK, h.hello).polls(most, "reply").polls(most)
		h.delivers(api.OK, h.hello, h.hello, h.hello).polls(most, "reply").polls(most)
		h.adds(4).feeds(0, 3).delivers(api.OK, h.hello).writes(2)
		l, _ = h.c.Clone().Poll(1)
		if len(l) != 4 || !bytes.Equal(l[0], h.reply) {
			t.Fatalf("Poll: %x", l)
		}
		h.polls(1, "reply", "4.0.0: challenge 4", "0.0.0: got 0 in 0, ack 3 of 2048", "0.0.1: data 0-2").quiet()
	}
	// One that is due goes once, even if the hello came twice ahead of the first Poll.
	h := ahead(t, 1).greets()
	h.delivers(api.OK, h.hello, h.hello).reply = h.one()
	h.quiet()
}

// P22.3: a challenge of its token on each path that is due, by rising numbers: again behind 2, 4 and 8 times the RTT; then it failed.
func TestChallenges(t *testing.T) {
	for role := range 2 {
		for _, most := range mosts {
			h := facing(t, role).ticks(10).adds(200).adds(3).adds(77)
			h.is("Add", h.c.Add(5, [8]byte{9}), api.OK)
			h.polls(most, "3.0.0: challenge 3", "5.0.0: challenge 0900000000000000", "77.0.0: challenge 77", "200.0.0: challenge 200").polls(most)
			h.gives(3, response(3)).removes(77).ticks(199).polls(most).ticks(1)
			h.polls(most, "5.0.1: challenge 0900000000000000", "200.0.1: challenge 200").polls(most)
			h.adds(4).polls(most, "4.0.0: challenge 4").ticks(400)
			h.polls(most, "4.0.1: challenge 4", "5.0.2: challenge 0900000000000000", "200.0.2: challenge 200").gives(5, got(2, 0))
			h.gives(5, api.Frame{Kind: api.FrResponse, Token: [8]byte{9}}).ticks(800).polls(most, "4.0.2: challenge 4", "200.0.3: challenge 200")
			h.ticks(1599).polls(most, "4.0.3: challenge 4").ticks(1).path(200, api.PathNew, 100, 0, 0).polls(most)
			h.path(200, api.PathFailed, 100, 0, 0).path(4, api.PathNew, 100, 0, 0).path(5, api.PathLive, 100, 4, 0)
		}
	}
}

// blocked is a conn that has bytes for which the other end has no room.
func blocked(t *testing.T, role int) *hand {
	t.Helper()
	h := facing(t, role).writes(2048)
	for base := 0; base < 2048; {
		l, e := h.c.Poll(64)
		if e != api.OK || len(l) == 0 {
			t.Fatalf("Poll: %d records, error %d", len(l), e)
		}
		base = min(base+128*len(l), 2048)
		counter := (base - 1) / 128
		h.gives(0, ack(base, 2048), got(counter, 0, 0, counter))
	}
	return h.writes(10).left(10)
}

// P22.3: an outbox that is blocked asks: at first at once, then 200 ticks behind the last time; on all live paths.
func TestAsks(t *testing.T) {
	for role := range 2 {
		h := blocked(t, role)
		for range 4 {
			h.seals(0) // the hand's records have the counters 5 and 6, of which none came in between
		}
		n := h.g.Counter(0)
		for id := range 10 {
			if id%3 == 0 && id > 0 {
				h.gives(id)
			}
		}
		h.adds(50).ticks(7).polls(0, append([]string{"50.0.0: challenge 50"}, asks(16, 0, n-4)...)...).polls(64)
		h.ticks(199).polls(64).ticks(1).polls(0, append([]string{"50.0.1: challenge 50"}, asks(17, 1, n-4)...)...).quiet()
		h.ticks(77).quiet().ticks(122).quiet().ticks(1).polls(64, asks(18, 2, n-4)...).quiet()
		h.ticks(350).polls(0, append([]string{"50.0.2: challenge 50"}, asks(19, 3, n-4)...)...).ticks(199).quiet().ticks(1).polls(1, asks(20, 4, n-4)...)
		h.gives(0, ack(2048, 2050)).polls(64, "0.0.21: data 2048-2050").quiet()
	}
}

// asks are the records by which a conn with the paths 0, 3, 6 and 9 asks.
func asks(counter, others, came int) []string {
	l := []string{fmt.Sprintf("0.0.%d: update 0, got %d in 0 0-%d, ack 0 of 2048", counter, came-1, came-1)}
	for _, id := range []int{3, 6, 9} {
		l = append(l, fmt.Sprintf("%d.0.%d: update 0, got 0 in 0, ack 0 of 2048", id, others))
	}
	return l
}

// P22.3: who asked a moment ago does not ask, though it is blocked anew; who is not blocked does not ask at all.
func TestAsksNotAgain(t *testing.T) {
	h := blocked(t, 0)
	n := h.g.Counter(0) - 1
	h.polls(0, fmt.Sprintf("0.0.16: update 0, got %d in 0 0-%d, ack 0 of 2048", n, n))
	h.gives(0, ack(2048, 2058)).polls(64, "0.0.17: data 2048-2058").gives(0, ack(2058, 2058), got(17, 0, 16, 17)).writes(5).quiet()
	h.ticks(199).quiet().ticks(1).polls(9, fmt.Sprintf("0.0.18: update 0, got %d in 0 0-%d, ack 0 of 2048", n+2, n+2))
	// What is to be sent again goes ahead of asking.
	h = facing(t, 1).writes(2048)
	h.c.Poll(64)
	h.ticks(350)
	if l, _ := h.c.Clone().Poll(0); len(l) != 0 {
		t.Fatalf("%d records", len(l))
	}
	// There is nothing to ask for where nothing was written that may not be sent.
	facing(t, 0).quiet().writes(1).polls(0).polls(9, "0.0.0: data 0-1").ticks(300).quiet()
}

// P22.3: what is asked for counts as asked for, though there is no live path on which it could be.
func TestAsksNobody(t *testing.T) {
	h := blocked(t, 0).removes(0).quiet().gives(8).quiet().ticks(199).quiet().ticks(1)
	h.polls(9, "8.0.0: update 0, got 0 in 0, ack 0 of 2048")
}

// P22.3: something due on several paths: a record on each, by rising numbers, with up to 4 responses; what is said once is said.
func TestDue(t *testing.T) {
	for role := range 2 {
		for _, most := range mosts {
			h := facing(t, role).gives(9, challenge(1)).feeds(255, 5).gives(0, update(0))
			h.gives(4, challenge(1), challenge(2), challenge(3), challenge(4), challenge(5)).gives(4, challenge(6)).gives(9, challenge(7), challenge(1))
			h.gives(2, ack(0, 0)).gives(3)
			h.polls(most, "0.0.0: got 0 in 0, ack 5 of 2048", "4.0.0: response 1, response 2, response 3, response 4, got 1 in 0 0-1, ack 5 of 2048",
				"9.0.0: response 1, response 7, response 1, got 1 in 0 0-1, ack 5 of 2048", "255.0.0: got 0 in 0, ack 5 of 2048").polls(most)
			h.gives(4, challenge(5)).polls(most, "4.0.1: response 5, got 2 in 0 0-2, ack 5 of 2048").quiet()
		}
	}
}

// P22.3: the frames of a record stand in their order, all of them; and the records that are due go ahead of the data.
func TestOrder(t *testing.T) {
	h := blocked(t, 1)
	h.gives(0, data(7, []byte("x"))).gives(0, challenge(8), data(9, []byte("yz"))).adds(6)
	n := h.g.Counter(0) - 1
	h.polls(9, "6.0.0: challenge 6", fmt.Sprintf("0.0.16: response 8, update 0, got %d in 0 0-%d, ack 0 of 2048 7-8 9-11", n, n))
	h.gives(0, ack(2048, 4000)).feeds(6, 1)
	h.polls(9, "6.0.1: got 0 in 0, ack 1 of 2048 7-8 9-11", "0.0.17: data 2048-2058").quiet()
}

// P22.3: a got frame stands only where something was opened in the epoch that the other end is in: with the counters that came.
func TestGotFrames(t *testing.T) {
	for role := range 2 {
		h := facing(t, role).updates().polls(9, "0.1.0: update 1, ack 0 of 2048")
		l := [][]byte{}
		for range 9 {
			l = append(l, h.seals(0))
		}
		h.delivers(api.OK, l[5], l[0], l[2], l[3]).feeds(7, 4).reads(4, 0, 4)
		h.polls(9, "0.1.1: got 5 in 0 0-1 2-4, ack 4 of 2052", "7.1.0: got 0 in 0, ack 4 of 2052")
		h.is("Advance", h.g.Advance(), api.OK)
		h.feeds(7, 2).delivers(api.OK, l[8]).reads(2, 4, 2).polls(9, "0.1.2: ack 6 of 2054", "7.1.1: got 0 in 1, ack 6 of 2054")
		h.gives(0, update(1)).polls(9, "0.1.3: got 0 in 1, ack 6 of 2054")
	}
}

// P22.3: rows of counters, and of bytes, beyond eight: the last ones of the counters, the first ones of the bytes.
func TestManyRows(t *testing.T) {
	h := facing(t, 0)
	for i := range 12 {
		h.seals(0)
		h.gives(0, data(3*i+1, []byte("x")))
	}
	h.polls(9, "0.0.0: got 23 in 0 7-8 9-10 11-12 13-14 15-16 17-18 19-20 21-22, ack 0 of 2048 1-2 4-5 7-8 10-11 13-14 16-17 19-20 22-23")
}

// P22.3: data that are more than one record holds, as many records as are asked for.
func TestData(t *testing.T) {
	for role := range 2 {
		h := facing(t, role).writes(300).polls(math.MinInt).polls(-1).polls(0).polls(1, "0.0.0: data 0-128")
		h.polls(2, "0.0.1: data 128-256", "0.0.2: data 256-300").quiet().path(0, api.PathLive, 100, 4, 3)
		h.writes(128).polls(1, "0.0.3: data 300-428").path(0, api.PathLive, 100, 4, 4)
		facing(t, role).writes(128).polls(0).polls(1, "0.0.0: data 0-128").quiet()
		facing(t, role).writes(129).polls(math.MaxInt, "0.0.0: data 0-128", "0.0.1: data 128-129").quiet()
	}
}

// P22.3: with no path that has room, or none that is live, bytes stay to be sent, and go as soon as there is one.
func TestNoRoom(t *testing.T) {
	for role := range 2 {
		h := facing(t, role).writes(700)
		h.polls(64, "0.0.0: data 0-128", "0.0.1: data 128-256", "0.0.2: data 256-384", "0.0.3: data 384-512").quiet().left(700)
		h.gives(0, got(1, 0)).polls(64, "0.0.4: data 512-640", "0.0.5: data 640-700").path(0, api.PathLive, 87, 5, 5).quiet()
		h = facing(t, role).writes(200).removes(0).quiet().left(200).gives(9).polls(64, "9.0.0: data 0-128", "9.0.1: data 128-200")
		h = facing(t, role).writes(200).removes(0).adds(9).polls(64, "9.0.0: challenge 9").quiet()
		h.gives(9, response(9)).polls(64, "9.0.1: data 0-128", "9.0.2: data 128-200")
	}
}

// P22.3: by Fastest on the path with the least RTT, as long as it has room.
func TestFastest(t *testing.T) {
	h := facing(t, 1).gives(3).gives(8).writes(128).polls(1, "0.0.0: data 0-128").ticks(200).gives(0, got(0, 0)).path(0, api.PathLive, 112, 5, 0)
	h.gives(3, data(0, stream(1))).removes(3).writes(1152)
	h.polls(64, "3.0.0: got 1 in 0 0-1, ack 1 of 2048",
		"8.0.0: data 128-256", "8.0.1: data 256-384", "8.0.2: data 384-512", "8.0.3: data 512-640",
		"0.0.1: data 640-768", "0.0.2: data 768-896", "0.0.3: data 896-1024", "0.0.4: data 1024-1152", "0.0.5: data 1152-1280").quiet()
	h.ticks(6).gives(8, got(3, 0, 0, 3)).path(8, api.PathLive, 88, 8, 0).gives(0, ack(1280, 3000))
}

// P22.3: what goes is under way from the moment of the Poll on, and by its own counter.
func TestUnderWay(t *testing.T) {
	h := facing(t, 0).gives(0, update(0)).ticks(40).writes(5).ticks(3)
	h.polls(9, "0.0.0: got 0 in 0, ack 0 of 2048", "0.0.1: data 0-5").ticks(57).gives(0, got(0, 0)).path(0, api.PathLive, 100, 4, 1)
	h.gives(0, got(1, 0)).path(0, api.PathLive, 94, 5, 0)
}

// holed is a conn with hundreds of pieces of one byte to be sent again, and room for 72 records.
func holed(t *testing.T, role int) *hand {
	t.Helper()
	h := facing(t, role).writes(2048)
	for sent := 0; sent < 16; {
		l, e := h.c.Poll(64)
		if e != api.OK || len(l) == 0 {
			t.Fatalf("Poll: %d records, error %d", len(l), e)
		}
		sent += len(l)
		if sent < 16 {
			h.gives(0, got(sent-1, 0, 0, sent-1))
		}
	}
	for i := 0; i < 1024; i += 8 {
		var ends []int
		for j := i; j < i+8; j++ {
			ends = append(ends, 2*j+1, 2*j+2)
		}
		h.gives(0, ack(0, 2048, ends...))
	}
	for id := 1; id < 16; id++ {
		h.gives(16 * id)
	}
	h.updates().c.Poll(8) // what was lost are the records that were under way, as far as the bytes did not arrive
	return h.gives(0, got(4, 1, 0, 4)).gives(16, got(4, 1, 0, 4)).path(0, api.PathLive, 66, 8, 0).path(16, api.PathLive, 87, 8, 0)
}

// P22.3: at most 64 records of data, and as many as are asked for.
func TestMost(t *testing.T) {
	for role := range 2 {
		h := holed(t, role)
		for _, x := range []struct{ most, want int }{
			{math.MinInt, 0}, {-1, 0}, {0, 0}, {1, 1}, {2, 2}, {63, 63}, {64, 64}, {65, 64}, {66, 64}, {1000, 64}, {math.MaxInt, 64},
		} {
			c := h.c.Clone()
			if l, e := c.Poll(x.most); e != api.OK || len(l) != x.want {
				t.Errorf("Poll(%d): %d records, error %d, not %d", x.most, len(l), e, x.want)
			}
			if l, e := c.Poll(64); e != api.OK || len(l) != min(72-x.want, 64) {
				t.Errorf("Poll behind Poll(%d): %d records, error %d", x.most, len(l), e)
			}
		}
	}
}

// P22.3: what is due goes on a path that is not live, too: on one that is new, that has gone, and on one that could not be begun.
func TestDueElsewhere(t *testing.T) {
	h := facing(t, 1).adds(5).polls(9, "5.0.0: challenge 5").feeds(5, 3)
	h.polls(9, "5.0.1: got 0 in 0, ack 3 of 2048").path(5, api.PathNew, 100, 0, 0)
	h.feeds(5, 2).removes(5).polls(9, "5.0.2: got 1 in 0 0-1, ack 5 of 2048").path(5, api.PathGone, 100, 0, 0)
	h.feeds(5, 2).gives(5, challenge(2)).polls(9, "5.0.3: response 2, got 3 in 0 0-3, ack 7 of 2048").quiet()
	for id := range 15 {
		h.adds(100 + id)
	}
	h.c.Poll(0)
	h.feeds(30, 4).path(30, api.PathNone, 0, 0, 0).polls(9, "30.0.0: got 0 in 0, ack 11 of 2048").gives(30, challenge(30))
	h.polls(9, "30.0.1: response 30, got 1 in 0 0-1, ack 11 of 2048").path(30, api.PathNone, 0, 0, 0).quiet()
}

// P22.3, R7: what Poll gives is the caller's own: the hello, the reply, and records, written over, do no harm.
func TestPolledIsTheCallers(t *testing.T) {
	for role := range 2 {
		h := ahead(t, role)
		if role == 0 {
			l, _ := h.c.Poll(9)
			h.hello = slices.Clone(l[0])
			clear(l[0])
			h.ticks(200).polls(9, "hello")
			continue
		}
		h.greets().delivers(api.OK, h.hello)
		l, _ := h.c.Poll(9)
		h.reply = slices.Clone(l[0])
		clear(l[0])
		h.delivers(api.OK, h.hello).polls(9, "reply")
		if _, e := h.s.TakeSecond(h.reply[1:]); e != api.OK {
			t.Fatalf("TakeSecond: error %d", e)
		}
		h.knows().writes(20)
		l, _ = h.c.Poll(9)
		clear(l[0])
		h.ticks(350).polls(9, "0.0.1: data 0-20")
	}
}
