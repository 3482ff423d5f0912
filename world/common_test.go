package world_test

import (
	"bytes"
	"fmt"
	"slices"
	"testing"

	"sheave/api"
	"sheave/conn"
	"sheave/ladder"
	"sheave/sample"
	"sheave/world"
)

// configs are those of two ends that know each other.
func configs() (a, b api.Config) {
	a = api.Config{Secret: api.Key{1}, Public: ladder.Public(api.Key{2}), Draw: api.Key{3}}
	b = api.Config{Role: 1, Secret: api.Key{2}, Draw: api.Key{4}}
	return a, b
}

// The events, by the fields that their rows name.
func write(who int, b []byte) api.Event {
	return api.Event{Kind: api.EvWrite, Who: who, Bytes: b}
}

func read(who, n int) api.Event { return api.Event{Kind: api.EvRead, Who: who, N: n} }

func tick(n int) api.Event { return api.Event{Kind: api.EvTick, N: n} }

func poll(who, n int) api.Event { return api.Event{Kind: api.EvPoll, Who: who, N: n} }

func deliver(n int) api.Event { return api.Event{Kind: api.EvDeliver, N: n} }

func drop(n int) api.Event { return api.Event{Kind: api.EvDrop, N: n} }

func double(n int) api.Event { return api.Event{Kind: api.EvDouble, N: n} }

func turn(n, m int) api.Event { return api.Event{Kind: api.EvTurn, N: n, M: m} }

func add(who, path, m int) api.Event {
	return api.Event{Kind: api.EvAdd, Who: who, Path: path, M: m}
}

func remove(who, path int) api.Event {
	return api.Event{Kind: api.EvRemove, Who: who, Path: path}
}

func update(who int) api.Event { return api.Event{Kind: api.EvUpdate, Who: who} }

func closing(who, n int) api.Event { return api.Event{Kind: api.EvClose, Who: who, N: n} }

func inject(who int, b []byte) api.Event {
	return api.Event{Kind: api.EvInject, Who: who, Bytes: b}
}

func look(who, path int) api.Event { return api.Event{Kind: api.EvLook, Who: who, Path: path} }

// The kinds: of what becomes of a datagram, and those that name an end.
var (
	fates  = []int{api.EvDeliver, api.EvDrop, api.EvDouble, api.EvTurn}
	naming = []int{api.EvWrite, api.EvRead, api.EvPoll, api.EvAdd, api.EvRemove, api.EvUpdate, api.EvClose, api.EvInject, api.EvLook}
)

// stream are the bytes that tests have one end write: so many of the first.
func stream(many int) []byte { return sample.Drawn(23, many) }

// same tells whether two answers are the same.
func same(x, y api.Answer) bool {
	return x.Code == y.Code && x.N == y.N && bytes.Equal(x.Bytes, y.Bytes)
}

// twin is a world, beside the chapter's words: each event is done to both, and must answer the same.
type twin struct {
	t *testing.T
	w *world.World
	m *model
}

func twinOf(t *testing.T, a, b api.Config) *twin {
	return &twin{t, world.New(a, b), newModel(a, b)}
}

// begun is a new world.
func begun(t *testing.T) *twin {
	a, b := configs()
	return twinOf(t, a, b)
}

// met is a world of two ends that are open, with nothing under way.
func met(t *testing.T) *twin {
	t.Helper()
	return begun(t).ok(poll(0, 9), deliver(0), poll(1, 9), deliver(0))
}

func (p *twin) clone() *twin { return &twin{p.t, p.w.Clone(), p.m.clone()} }

// answers does an event.
func (p *twin) answers(e api.Event) api.Answer {
	p.t.Helper()
	got, want := p.w.Do(e), p.m.do(e)
	if !same(got, want) {
		p.t.Fatalf("%+v: %+v, not %+v", e, got, want)
	}
	if got.Code != api.OK && (got.N != 0 || len(got.Bytes) != 0) {
		p.t.Fatalf("%+v: an error, and more: %+v", e, got)
	}
	if got := p.w.Under(); !slices.Equal(got, p.m.to) {
		p.t.Fatalf("%+v: %v are under way, not %v", e, got, p.m.to)
	}
	return got
}

// does holds an event's answer to what it must be.
func (p *twin) does(e api.Event, code api.Errno, n int, text string) *twin {
	p.t.Helper()
	if got := p.answers(e); got.Code != code || got.N != n || string(got.Bytes) != text {
		p.t.Fatalf("%+v: %+v %q, not %d, %d and %q", e, got, got.Bytes, code, n, text)
	}
	return p
}

// ok does events of which none may answer an error.
func (p *twin) ok(l ...api.Event) *twin {
	p.t.Helper()
	for _, e := range l {
		if got := p.answers(e); got.Code != api.OK {
			p.t.Fatalf("%+v: error %d", e, got.Code)
		}
	}
	return p
}

// fails does events that must answer the same error each, and change nothing.
func (p *twin) fails(code api.Errno, l ...api.Event) *twin {
	p.t.Helper()
	for _, e := range l {
		before := deep(p.w)
		p.does(e, code, 0, "")
		if got := deep(p.w); got != before {
			p.t.Fatalf("%+v: an error, and\n%s\nthen; ahead of it\n%s", e, got, before)
		}
	}
	return p
}

// under holds to whom what is under way goes to what it must be.
func (p *twin) under(want ...int) *twin {
	p.t.Helper()
	if got := p.w.Under(); !slices.Equal(got, want) {
		p.t.Fatalf("%v are under way, not %v", got, want)
	}
	return p
}

// holds compares all that can be seen of both.
func (p *twin) holds() *twin {
	p.t.Helper()
	for who := range 2 {
		if got, want := see(p.w.End(who)), see(p.m.ends[who]); got != want {
			p.t.Fatalf("the end %d:\n%s\nnot\n%s", who, got, want)
		}
	}
	// Whatever is under way: each arrives at clones, the last one first.
	x := p.clone()
	for n := len(p.m.to) - 1; n >= 0; n-- {
		x.answers(deliver(n))
	}
	for who := range 2 {
		if got, want := see(x.w.End(who)), see(x.m.ends[who]); got != want {
			p.t.Fatalf("the end %d, when all has arrived:\n%s\nnot\n%s", who, got, want)
		}
	}
	return p
}

// see is what can be seen of an end: what it tells, and what a clone of it gives and reads.
func see(c *conn.Conn) string {
	out, in := c.Epochs()
	s := fmt.Sprintf("state %d, clock %d, why %d, left %d, epochs %d %d", c.State(), c.Clock(), c.Why(), c.Left(), out, in)
	for id := range 256 {
		if p := c.Path(id); p != (api.Path{ID: id}) {
			s += fmt.Sprintf(", %+v", p)
		}
	}
	x := c.Clone()
	l, e := x.Poll(64)
	s += fmt.Sprintf("\npoll %d %x", e, l)
	b, e := x.Read(5000)
	s += fmt.Sprintf("\nread %d %x", e, b)
	b, e = x.Close(5)
	return s + fmt.Sprintf("\nclose %d %x", e, b)
}

// deep is what can be seen of a world, and of clones in which one of what is under way arrives: the first ones, or the last.
func deep(w *world.World) string {
	s := fmt.Sprintf("%v\n%s\n%s", w.Under(), see(w.End(0)), see(w.End(1)))
	many := len(w.Under())
	for n := range many {
		if n >= 6 && n < many-1 {
			continue
		}
		x := w.Clone()
		got := x.Do(deliver(n))
		s += fmt.Sprintf("\ndeliver %d: %+v %v\n%s\n%s", n, got, x.Under(), see(x.End(0)), see(x.End(1)))
	}
	return s
}
