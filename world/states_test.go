package world_test

import (
	"math"
	"testing"

	"sheave/api"
	"sheave/world"
)

// standing is a world as it stands at some time.
type standing struct {
	name string
	*twin
}

// standings are worlds with ends in each of the states, with datagrams under way and without them.
func standings(t *testing.T) []standing {
	t.Helper()
	hello := begun(t).ok(poll(0, 9), write(0, stream(5)))
	reply := hello.clone().ok(double(0), poll(1, 9), write(1, stream(200)))
	a, b := configs()
	a.Public = api.Key{}
	unknown := twinOf(t, a, b)
	unknown.does(poll(0, 9), api.ErrZero, 0, "")
	busy := met(t).ok(add(0, 3, 1), add(1, 4, 2), write(0, stream(700)), write(1, stream(300)), poll(0, 9), poll(1, 9), double(3), turn(1, 7),
		deliver(5), tick(20), update(0), poll(0, 9))
	closed := busy.clone().ok(closing(0, 7))
	over := closed.clone().ok(deliver(len(closed.w.Under()) - 1))
	if over.w.End(1).State() != api.StClosed {
		t.Fatal("the close did not arrive")
	}
	return []standing{
		{"begun", begun(t)}, {"a hello", hello}, {"a reply", reply}, {"failed", unknown}, {"met", met(t)}, {"crowd", crowd(t)},
		{"busy", busy}, {"one closed", closed}, {"both closed", over}, {"closed at once", begun(t).ok(closing(0, 1), closing(1, 1))},
		{"full", full(t, 64)},
	}
}

// samples are events of each kind.
func samples() []api.Event {
	l := []api.Event{{}, {Kind: 15}, inject(0, stream(401)), inject(1, nil), tick(-1)}
	for who := range 2 {
		l = append(l, write(who, stream(100)), write(who, nil), read(who, 60), read(who, 0), poll(who, 64), poll(who, 0), add(who, 77, -3), add(who, 300, 0),
			remove(who, 0), remove(who, 200), update(who), closing(who, 6), closing(who, -6), inject(who, stream(50)), look(who, 0))
	}
	for _, n := range []int{0, -2, 3, math.MinInt} {
		l = append(l, deliver(n), drop(n), double(n), turn(n, n))
	}
	return append(l, tick(0), tick(50), tick(2000))
}

// P23.1, T5: each event in each state: what it answers is what the chapter says; and with an error N and Bytes are 0 and empty, and
// nothing is changed, but where the chapter says so.
func TestEachEventInEachState(t *testing.T) {
	t.Parallel()
	errors := map[api.Errno]int{}
	for _, x := range standings(t) {
		for _, e := range samples() {
			p := x.clone()
			before := deep(p.w)
			got := p.answers(e)
			errors[got.Code]++
			moves := e.Kind == api.EvTick && e.N > 0 || e.Kind == api.EvDeliver // an end's clock, and what is not under way any more
			if got.Code != api.OK && !moves && deep(p.w) != before {
				t.Errorf("%s: %+v: error %d, and something is changed", x.name, e, got.Code)
			}
			if got.Code != api.OK && (got.N != 0 || got.Bytes != nil) {
				t.Errorf("%s: %+v: an error, and %+v", x.name, e, got)
			}
			p.holds()
		}
	}
	for _, e := range []api.Errno{api.ErrArg, api.ErrLong, api.ErrShort, api.ErrState, api.ErrClosed, api.ErrForged, api.ErrPacket, api.ErrOld,
		api.ErrPath} {
		if errors[e] == 0 {
			t.Errorf("nothing tells the error %d", e)
		}
	}
}

// P23.1, R7: a clone, in each state: it is the same, and neither of the two sees what is done to the other.
func TestClone(t *testing.T) {
	t.Parallel()
	for _, x := range standings(t) {
		want := deep(x.w)
		for _, e := range samples() {
			w := x.w.Clone()
			c := w.Clone()
			w.Do(e)
			if deep(c) != want {
				t.Fatalf("%s: a clone sees %+v", x.name, e)
			}
			then := deep(w)
			c.Do(e)
			if deep(c) != then {
				t.Fatalf("%s: %+v is another thing in a clone", x.name, e)
			}
			c.Do(tick(1))
			c.Do(turn(0, 1))
			c.Do(write(0, stream(9)))
			if deep(w) != then {
				t.Fatalf("%s: what is done to a clone behind %+v is seen", x.name, e)
			}
		}
	}
}

// R7: a datagram that is turned in a clone is whole in the other, and the other way round.
func TestCloneAndTurns(t *testing.T) {
	p := crowd(t)
	c := p.clone().ok(turn(1, 5), turn(4, 0))
	p.ok(turn(0, 127))
	d := c.clone().ok(turn(1, 5))
	for i, x := range []struct {
		p    *twin
		want []int
	}{{p, []int{1, 2, 3, 4}}, {c, []int{0, 2, 3}}, {d, []int{0, 1, 2, 3}}} {
		if got := x.p.order(); len(got) != len(x.want) || !same(api.Answer{Bytes: asBytes(got)}, api.Answer{Bytes: asBytes(x.want)}) {
			t.Errorf("%d: %v are whole, not %v", i, got, x.want)
		}
		x.p.holds()
	}
}

func asBytes(l []int) []byte {
	var b []byte
	for _, n := range l {
		b = append(b, byte(n))
	}
	return b
}

// R7: the ends of a clone are its own.
func TestEndsOfAClone(t *testing.T) {
	w := met(t).w
	c := w.Clone()
	for who := range 2 {
		if w.End(who) == c.End(who) {
			t.Errorf("the end %d is that of the clone", who)
		}
		c.End(who).Write(stream(9))
		if w.End(who).Left() != 0 || c.End(who).Left() != 9 {
			t.Errorf("the end %d: what is written to a clone's is seen", who)
		}
	}
}

// R8: two worlds that were made apart have nothing in common.
func TestWorldsApart(t *testing.T) {
	a, b := configs()
	x, y := world.New(a, b), world.New(a, b)
	want := deep(y)
	for _, e := range []api.Event{poll(0, 9), deliver(0), poll(1, 9), deliver(0), write(0, stream(300)), poll(0, 9), tick(60), add(1, 5, 6), poll(1, 9), turn(0, 3)} {
		if got := x.Do(e); got.Code != api.OK {
			t.Fatalf("%+v: error %d", e, got.Code)
		}
		if deep(y) != want {
			t.Fatalf("%+v of another world is seen", e)
		}
	}
}
