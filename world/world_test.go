package world_test

import (
	"fmt"
	"math"
	"testing"

	"sheave/api"
	"sheave/conn"
	"sheave/world"
)

// P23.1: the chapter's examples.
func TestExamples(t *testing.T) {
	p := begun(t)
	p.does(deliver(0), api.ErrState, 0, "").does(poll(2, 0), api.ErrArg, 0, "")
	p.does(poll(0, 9), api.OK, 1, "").does(deliver(0), api.OK, 0, "").does(poll(1, 9), api.OK, 1, "").does(deliver(0), api.OK, 0, "")
	p.does(look(0, 0), api.OK, api.StOpen, "0 0 0 0 100 4")

	x := p.clone()
	x.does(write(0, []byte("hi")), api.OK, 2, "").does(poll(0, 9), api.OK, 1, "").does(turn(0, 5), api.OK, 0, "")
	x.does(double(0), api.ErrForged, 0, "").does(drop(0), api.OK, 0, "").does(read(1, 9), api.OK, 0, "")
	x.does(tick(350), api.OK, 350, "").does(poll(0, 9), api.OK, 1, "").does(deliver(0), api.OK, 0, "").does(read(1, 9), api.OK, 2, "hi")
}

// Ahead of the promises: the end 0 is the one that begins, the end 1 the other, whatever the configs say.
func TestRolesAreThoseOfTheirPlaces(t *testing.T) {
	numbers := []int{0, 1, 2, -1, math.MinInt, math.MaxInt}
	a, b := configs()
	for _, x := range numbers {
		for _, y := range numbers {
			a.Role, b.Role = x, y
			p := twinOf(t, a, b)
			p.does(poll(1, 9), api.OK, 0, "").does(poll(0, 9), api.OK, 1, "").under(1)
			p.does(deliver(0), api.OK, 0, "").does(poll(1, 9), api.OK, 1, "").under(0)
			p.does(deliver(0), api.OK, 0, "").holds()
			p.does(look(0, 0), api.OK, api.StOpen, "0 0 0 0 100 4").does(look(1, 0), api.OK, api.StOpen, "0 0 0 0 100 4")
			p.ok(write(1, []byte("to and")), poll(1, 9), deliver(0)).does(read(0, 9), api.OK, 6, "to and")
			p.ok(write(0, []byte("fro")), poll(0, 9), deliver(0), deliver(0)).does(read(1, 9), api.OK, 3, "fro")
		}
	}
}

// Ahead of the promises: each config is that of its end.
func TestConfigsAreThoseOfTheirEnds(t *testing.T) {
	a, b := configs()
	a.Policy = api.Turns
	for range 2 {
		p := twinOf(t, a, b)
		p.ok(poll(0, 9), deliver(0), poll(1, 9), deliver(0), add(0, 5, 1), poll(0, 9), deliver(0), poll(1, 9), deliver(0)).holds()
		p.ok(write(0, stream(1000)), write(1, stream(1000)), poll(0, 64), poll(1, 64)).holds()
		a.Policy, b.Policy = b.Policy, a.Policy
	}
	p, q := begun(t), twinOf(t, b, a) // the end 0 has no public key of the other, then
	p.ok(poll(0, 9))
	q.does(poll(0, 9), api.ErrZero, 0, "").does(look(0, 0), api.OK, api.StFailed, "0 0 0 0 0 0")
}

// Ahead of the promises: the ends of a new world, and numbers that are none; nothing is under way.
func TestEndAndUnderOfANewWorld(t *testing.T) {
	p := begun(t).holds().under()
	for who := range 2 {
		c := p.w.End(who)
		if c == nil || c.State() != api.StBegin || c.Clock() != 0 || c.Left() != 0 || c.Why() != 0 || c.Path(0) != (api.Path{}) {
			t.Errorf("End(%d) of a new world", who)
		}
		if c != p.w.End(who) {
			t.Errorf("End(%d) is another one each time", who)
		}
	}
	if p.w.End(0) == p.w.End(1) {
		t.Error("both ends are the same")
	}
	for _, who := range []int{-1, 2, 3, math.MinInt, math.MaxInt, -2, 256, 1 << 32, 1<<32 + 1} {
		if p.w.End(who) != nil {
			t.Errorf("End(%d) is there", who)
		}
	}
}

// Ahead of the promises: End is the world's own end, whenever it was asked for.
func TestEndIsTheWorlds(t *testing.T) {
	p := begun(t)
	a, b := p.w.End(0), p.w.End(1)
	p.ok(poll(0, 9), deliver(0), poll(1, 9), deliver(0), tick(7), write(0, stream(5)))
	if a.State() != api.StOpen || b.State() != api.StOpen || a.Clock() != 7 || a.Left() != 5 || b.Left() != 0 {
		t.Error("an end that was asked for does not go on with the world")
	}
	p.ok(closing(1, 9), deliver(0))
	if p.w.End(0).Why() != 9 || p.w.End(1).Why() != 0 || a.Why() != 9 {
		t.Error("why")
	}
}

// P23.1: kinds that are none.
func TestKindsThatAreNone(t *testing.T) {
	for _, p := range []*twin{begun(t), met(t), met(t).ok(write(0, stream(9)), poll(0, 9))} {
		for _, kind := range []int{0, 15, 16, -1, -14, math.MinInt, math.MaxInt, 257, 1<<32 + 3} {
			for _, who := range []int{0, 1, 2, -1} {
				p.fails(api.ErrArg, api.Event{Kind: kind, Who: who}, api.Event{Kind: kind, Who: who, N: 5, M: 5, Path: 5, Bytes: stream(5)},
					api.Event{Kind: kind, Who: who, Bytes: stream(500)})
			}
		}
	}
}

// P23.1: numbers of an end that is none: ErrArg of each kind that names one, ahead of all that an end would tell.
func TestWhoOfKindsThatNameAnEnd(t *testing.T) {
	closed := met(t).ok(closing(0, 1), closing(1, 1))
	for _, p := range []*twin{begun(t), met(t), closed} {
		for _, kind := range naming {
			for _, who := range []int{-1, 2, math.MinInt, math.MaxInt, -2, 3, 1 << 32} {
				p.fails(api.ErrArg, api.Event{Kind: kind, Who: who}, api.Event{Kind: kind, Who: who, N: -1, M: -1, Path: -1},
					api.Event{Kind: kind, Who: who, N: 9, M: 9, Path: 9, Bytes: stream(500)})
			}
		}
	}
	for who := range 2 {
		for _, kind := range naming {
			p := met(t)
			if got := p.answers(api.Event{Kind: kind, Who: who}).Code; got == api.ErrArg {
				t.Errorf("kind %d of the end %d: error %d", kind, who, got)
			}
			p.holds()
		}
	}
}

// P23.1: kinds that name no end do the same, whatever number stands there.
func TestWhoOfKindsThatNameNoEnd(t *testing.T) {
	for _, who := range []int{-1, 0, 1, 2, math.MinInt, math.MaxInt} {
		for _, kind := range append([]int{api.EvTick}, fates...) {
			for _, from := range []*twin{met(t).ok(write(0, stream(200)), poll(0, 9)), met(t).ok(write(1, stream(200)), poll(1, 9))} {
				p := from.clone().ok(api.Event{Kind: kind, Who: who, N: 1, M: 3}).holds()
				q := from.clone().ok(api.Event{Kind: kind, N: 1, M: 3})
				if deep(p.w) != deep(q.w) {
					t.Errorf("kind %d: Who %d makes a difference", kind, who)
				}
			}
		}
	}
}

// P23.1: fields that an event's row does not name make no difference.
func TestFieldsThatAreNotNamed(t *testing.T) {
	from := met(t).ok(write(0, stream(300)), write(1, stream(300)), poll(0, 9), deliver(0), poll(1, 9))
	for _, x := range []struct {
		e     api.Event
		other api.Event // has something in each field that the row does not name
	}{
		{write(1, stream(5)), api.Event{Path: 3, N: -4, M: 9}},
		{read(1, 5), api.Event{Path: 3, M: 9, Bytes: stream(500)}},
		{tick(400), api.Event{Who: 7, Path: 3, M: 9, Bytes: stream(500)}},
		{poll(1, 2), api.Event{Path: 3, M: 9, Bytes: stream(500)}},
		{deliver(1), api.Event{Who: 7, Path: 3, M: 9, Bytes: stream(500)}},
		{drop(1), api.Event{Who: 7, Path: 3, M: 9, Bytes: stream(500)}},
		{double(1), api.Event{Who: 7, Path: 3, M: 9, Bytes: stream(500)}},
		{turn(1, 5), api.Event{Who: 7, Path: 3, Bytes: stream(500)}},
		{add(1, 4, 7), api.Event{N: 9, Bytes: stream(500)}},
		{remove(1, 0), api.Event{N: 9, M: 9, Bytes: stream(500)}},
		{update(1), api.Event{Path: 3, N: 9, M: 9, Bytes: stream(500)}},
		{closing(1, 6), api.Event{Path: 3, M: 9, Bytes: stream(500)}},
		{look(1, 0), api.Event{N: 9, M: 9, Bytes: stream(500)}},
		{inject(1, stream(5)), api.Event{Path: 3, N: 9, M: 9}},
	} {
		p, q := from.clone(), from.clone()
		more := x.e
		more.Who, more.Path, more.N, more.M = x.e.Who+x.other.Who, x.e.Path+x.other.Path, x.e.N+x.other.N, x.e.M+x.other.M
		if x.e.Bytes == nil {
			more.Bytes = x.other.Bytes
		}
		if !same(p.answers(x.e), q.answers(more)) || deep(p.w) != deep(q.w) {
			t.Errorf("%+v and %+v are not the same", x.e, more)
		}
	}
}

// P23.1: each event with nothing under way, with one datagram, and with several.
func TestEachEventWithNoneOneAndSeveral(t *testing.T) {
	none := met(t)
	one := met(t).ok(write(0, stream(9)), poll(0, 9))
	several := met(t).ok(write(0, stream(300)), write(1, stream(200)), poll(0, 9), poll(1, 9), drop(2))
	for many, from := range []*twin{none, one, several} {
		is := len(from.w.Under())
		if is != []int{0, 1, 4}[many] {
			t.Fatalf("%d are under way", is)
		}
		for _, x := range []struct {
			e    api.Event
			n    int
			text string
			more int // so many more are under way then
		}{
			{write(0, stream(7)), 7, "", 0}, {read(0, 5), 0, "", 0}, {tick(3), 3, "", 0}, {poll(0, 9), 0, "", 0},
			{add(1, 3, 3), 0, "", 0}, {remove(1, 0), 0, "", 0}, {update(1), 0, "", 0}, {closing(1, 3), 0, "", 1},
			{look(1, 0), 2, "", 0}, {deliver(5), 0, "", -1}, {drop(5), 0, "", -1}, {double(5), 0, "", 0}, {turn(5, 5), 0, "", 0},
		} {
			p := from.clone()
			if is == 0 && x.e.Kind >= api.EvDeliver && x.e.Kind <= api.EvTurn {
				p.fails(api.ErrState, x.e)
				continue
			}
			got := p.answers(x.e)
			if x.e.Kind == api.EvLook {
				got.Bytes = nil
			}
			if !same(got, api.Answer{N: x.n}) || len(p.w.Under()) != is+x.more {
				t.Errorf("%+v with %d: %+v, and %d", x.e, is, got, len(p.w.Under()))
			}
			p.holds()
		}
	}
}

// P23.1: with nothing under way there is no place, whatever the number.
func TestNothingUnderWay(t *testing.T) {
	closed := met(t).ok(closing(0, 1), drop(0), closing(1, 1), drop(0))
	for _, p := range []*twin{begun(t), met(t), closed, begun(t).ok(poll(0, 9), drop(0))} {
		for _, kind := range fates {
			for _, n := range []int{0, -1, 1, 64, math.MinInt, math.MaxInt} {
				p.fails(api.ErrState, api.Event{Kind: kind, N: n, M: n}, api.Event{Kind: kind, Who: 7, N: n})
			}
		}
	}
}

// T5: a world that was declared, and not made, has two ends that begin, and takes each event.
func TestAWorldThatWasNotMade(t *testing.T) {
	var w world.World
	for kind := -1; kind < 16; kind++ {
		for who := -1; who < 3; who++ {
			w.Do(api.Event{Kind: kind, Who: who, N: 3, Path: 3, Bytes: stream(30)})
			w.Clone().Do(api.Event{Kind: kind, Who: who})
		}
	}
	if w.End(0) == nil || w.End(1) == nil || w.End(2) != nil {
		t.Error("ends")
	}
}

// lookOf is what EvLook must tell, by what the end itself tells.
func lookOf(c *conn.Conn, path int) api.Answer {
	out, in := c.Epochs()
	x := c.Path(path)
	return api.Answer{N: c.State(), Bytes: fmt.Appendf(nil, "%d %d %d %d %d %d", c.Clock(), c.Left(), out, in, x.RTT, x.Window)}
}
