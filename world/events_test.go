package world_test

import (
	"bytes"
	"math"
	"slices"
	"testing"

	"sheave/api"
	"sheave/conn"
	"sheave/sample"
)

// edges are numbers beyond what an end takes.
var edges = []int{math.MinInt, math.MinInt + 1, -1 << 40, -2, -1}

// P23.1, EvWrite: of nothing, of what there is room for, and of more: N is how many were taken.
func TestWrite(t *testing.T) {
	for who := range 2 {
		p := met(t)
		p.does(write(who, nil), api.OK, 0, "").does(write(who, []byte{}), api.OK, 0, "").does(write(who, stream(1)), api.OK, 1, "")
		p.does(write(who, stream(2000)), api.OK, 2000, "").does(write(who, stream(2000)), api.OK, 47, "")
		p.does(write(who, stream(9)), api.OK, 0, "").does(write(who, nil), api.OK, 0, "").holds()
		p.does(write(1-who, stream(5000)), api.OK, 2048, "")
		p.ok(closing(who, 1)).fails(api.ErrClosed, write(who, nil), write(who, stream(9)))
		p.does(write(1-who, nil), api.OK, 0, "").holds()
		begun(t).does(write(who, stream(3000)), api.OK, 2048, "").holds()
	}
}

// P23.1, EvRead: of nothing, of what there is, and of more: Bytes, and how many.
func TestRead(t *testing.T) {
	for who := range 2 {
		p := met(t).does(read(who, 9), api.OK, 0, "").ok(write(1-who, stream(300)), poll(1-who, 9), deliver(0), deliver(0), deliver(0))
		text := string(stream(300))
		p.does(read(1-who, 500), api.OK, 0, "")
		for _, n := range append([]int{0}, edges...) {
			p.does(read(who, n), api.OK, 0, "")
		}
		p.does(read(who, 1), api.OK, 1, text[:1]).does(read(who, 100), api.OK, 100, text[1:101]).holds()
		p.clone().does(read(who, 199), api.OK, 199, text[101:]).does(read(who, 199), api.OK, 0, "").holds()
		p.clone().does(read(who, 200), api.OK, 199, text[101:]).does(read(who, 1), api.OK, 0, "")
		p.clone().does(read(who, math.MaxInt), api.OK, 199, text[101:])
		p.ok(closing(who, 1)).fails(api.ErrClosed, read(who, 9), read(who, 0), read(who, -1))
	}
}

// P23.1, EvTick: both clocks go on; N is the end 0's clock.
func TestTick(t *testing.T) {
	for _, p := range []*twin{begun(t), begun(t).ok(poll(0, 9)), met(t)} {
		p.does(tick(0), api.OK, 0, "").does(tick(7), api.OK, 7, "").does(tick(0), api.OK, 7, "").does(tick(1000), api.OK, 1007, "")
		for _, n := range edges {
			p.fails(api.ErrArg, tick(n))
		}
		p.does(tick(3), api.OK, 1010, "").holds()
		if x, y := p.w.End(0).Clock(), p.w.End(1).Clock(); x != 1010 || y != 1010 {
			t.Errorf("the clocks: %d and %d", x, y)
		}
		p.does(tick(math.MaxInt), api.OK, 1<<40, "").does(tick(math.MaxInt), api.OK, 1<<40, "").does(tick(1), api.OK, 1<<40, "").holds()
		if x, y := p.w.End(0).Clock(), p.w.End(1).Clock(); x != 1<<40 || y != 1<<40 {
			t.Errorf("the clocks: %d and %d", x, y)
		}
	}
	met(t).does(tick(1<<40-1), api.OK, 1<<40-1, "").does(tick(9), api.OK, 1<<40, "")
	w := met(t).w
	w.End(0).Tick(4) // else both clocks are the same, as long as both ends are open
	if got := w.Do(tick(6)); !same(got, api.Answer{N: 10}) || w.End(1).Clock() != 6 {
		t.Errorf("%+v, and the end 1's clock %d", got, w.End(1).Clock())
	}
}

// P23.1, EvTick: of both ends, even if one of them is closed: its Code is told, and the other's clock goes on all the same.
func TestTickWithAClosedEnd(t *testing.T) {
	for _, from := range []*twin{begun(t), begun(t).ok(poll(0, 9)), met(t)} {
		for who := range 2 {
			p := from.clone().ok(tick(5), closing(who, 1))
			p.does(tick(20), api.ErrClosed, 0, "").does(tick(300), api.ErrClosed, 0, "").does(tick(0), api.ErrClosed, 0, "").holds()
			if x, y := p.w.End(who).Clock(), p.w.End(1-who).Clock(); x != 5 || y != 325 {
				t.Errorf("the clocks of the end %d, which is closed, and the other: %d and %d", who, x, y)
			}
			// The first of the codes is told: of the end 0 if it is an error, else of the end 1.
			for _, n := range edges {
				p.fails([]api.Errno{api.ErrClosed, api.ErrArg}[who], tick(n))
			}
			p.ok(closing(1-who, 1)).fails(api.ErrClosed, tick(20), tick(0), tick(-1))
		}
	}
	a, b := configs()
	a.Public = api.Key{}
	p := twinOf(t, a, b).does(poll(0, 9), api.ErrZero, 0, "").does(tick(20), api.ErrClosed, 0, "").does(tick(-1), api.ErrClosed, 0, "")
	if x, y := p.w.End(0).Clock(), p.w.End(1).Clock(); x != 0 || y != 20 {
		t.Errorf("the clocks of the end that failed, and the other: %d and %d", x, y)
	}
}

// P23.1, EvTick: what is under way for too long is lost at both ends.
func TestTickOfBothEndsLosesWhatIsLate(t *testing.T) {
	p := met(t).ok(write(0, stream(5)), write(1, stream(6)), poll(0, 9), poll(1, 9), drop(0), drop(0))
	p.does(tick(349), api.OK, 349, "").does(poll(0, 9), api.OK, 0, "").does(poll(1, 9), api.OK, 0, "")
	p.does(tick(1), api.OK, 350, "").does(poll(0, 9), api.OK, 1, "").does(poll(1, 9), api.OK, 1, "").ok(deliver(0), deliver(0))
	p.does(read(1, 9), api.OK, 5, string(stream(5))).does(read(0, 9), api.OK, 6, string(stream(6))).holds()
}

// P23.1, EvPoll: how many it gave, which are under way to the other end.
func TestPoll(t *testing.T) {
	for who := range 2 {
		to := 1 - who
		p := met(t).does(poll(who, 9), api.OK, 0, "").under().ok(write(who, stream(2048)))
		for _, n := range append([]int{0}, edges...) {
			p.does(poll(who, n), api.OK, 0, "").under()
		}
		p.does(poll(who, 1), api.OK, 1, "").under(to).does(poll(who, 2), api.OK, 2, "").under(to, to, to)
		p.clone().does(poll(who, 64), api.OK, 1, "").under(to, to, to, to).does(poll(who, 64), api.OK, 0, "").holds()
		p.does(poll(who, math.MaxInt), api.OK, 1, "").holds()
		p.ok(deliver(0)).does(poll(to, 0), api.OK, 1, "").under(to, to, to, who).does(poll(to, 0), api.OK, 0, "").holds()
		p.ok(closing(who, 1)).under(to, to, to, who, to).fails(api.ErrClosed, poll(who, 9), poll(who, 0), poll(who, -1))
	}
}

// P23.1, EvPoll: an end that fails tells why, once.
func TestPollThatFails(t *testing.T) {
	a, b := configs()
	a.Public = api.Key{}
	p := twinOf(t, a, b).does(poll(0, 9), api.ErrZero, 0, "").under().fails(api.ErrClosed, poll(0, 9), write(0, stream(5)), read(0, 5), update(0))
	p.does(poll(1, 9), api.OK, 0, "").holds()
}

// full is a world with so many datagrams under way: they are of the end 0, and the end 1 awaits them.
func full(t *testing.T, many int) *twin {
	t.Helper()
	p := met(t)
	for range many {
		p.ok(write(0, stream(1)), poll(0, 9))
		if len(p.w.Under())%4 == 0 {
			p.ok(tick(4000)) // what is under way counts as lost, which makes room
		}
	}
	for n := len(p.w.Under()); n > many; n-- {
		p.ok(drop(0))
	}
	for len(p.w.Under()) < many {
		p.ok(tick(4000), poll(0, 1))
	}
	return p
}

// P23.1, EvPoll: at most 64 are under way; more are lost, the last ones. N is how many it gave all the same.
func TestPollIntoAFullBag(t *testing.T) {
	for many := 58; many <= 64; many++ {
		from := full(t, many).ok(tick(4000), write(1, stream(2048)))
		if got := len(from.w.Under()); got != many {
			t.Fatalf("%d are under way", got)
		}
		before := from.w.Under()
		p := from.clone().does(poll(1, 64), api.OK, 4, "")
		if got := p.w.Under(); !slices.Equal(got, append(slices.Clone(before), 0, 0, 0, 0)[:min(many+4, 64)]) {
			t.Errorf("with %d: %v are under way", many, got)
		}
		p.does(poll(1, 64), api.OK, 0, "").holds()
		// Of the four those that are under way are the first ones.
		come := min(4, 64-many)
		for range come {
			p.ok(deliver(many))
		}
		p.does(read(0, 5000), api.OK, 128*come, string(stream(128*come)))
		// The others were lost: they go again.
		p.ok(tick(4000))
		for range 20 {
			p.answers(drop(0))
		}
		if got := p.answers(poll(1, 64)).N; got == 0 && come < 4 {
			t.Errorf("with %d: what was lost does not go again", many)
		}
	}
}

// P23.1, EvClose and EvPoll, at a bag that is full: what they give is lost, and who is closed is so.
func TestCloseIntoAFullBag(t *testing.T) {
	p := full(t, 64)
	want := p.w.Under()
	for range 3 {
		p.ok(write(0, stream(5)), tick(4000), poll(0, 64)).under(want...)
	}
	p.does(closing(1, 3), api.OK, 0, "").under(want...).does(look(1, 0), api.OK, api.StClosed, digitsOf(p.w.End(1), 0)).holds()
	p.ok(drop(0)).under(want[:63]...).does(closing(0, 3), api.OK, 0, "").under(append(want[:63], 1)...).holds()
}

func digitsOf(c *conn.Conn, path int) string { return string(lookOf(c, path).Bytes) }

// P23.1, EvAdd: the token's bytes are those of M, the highest first.
func TestAdd(t *testing.T) {
	for m, want := range map[int][8]byte{
		0: {}, 1: {7: 1}, 255: {7: 255}, 256: {6: 1}, 0x0102030405060708: {1, 2, 3, 4, 5, 6, 7, 8}, -1: {}, -2: {7: 1}, -256: {7: 255},
		-257: {6: 1}, math.MaxInt: {127, 255, 255, 255, 255, 255, 255, 255}, math.MinInt: {127, 255, 255, 255, 255, 255, 255, 255},
		math.MinInt + 1: {127, 255, 255, 255, 255, 255, 255, 254}, 1 << 62: {64}, -1<<62 - 1: {64}, 1 << 32: {3: 1}, 1 << 24: {4: 1},
	} {
		for who := range 2 {
			p := met(t)
			c := p.w.End(who).Clone()
			p.does(add(who, 9, m), api.OK, 0, "").does(look(who, 9), api.OK, api.StOpen, "0 0 0 0 100 0")
			if e := c.Add(9, want); e != api.OK || see(c) != see(p.w.End(who)) {
				t.Errorf("Add of %d: another token than %x", m, want)
			}
			p.does(poll(who, 0), api.OK, 1, "").ok(deliver(0)).does(poll(1-who, 0), api.OK, 1, "").ok(deliver(0))
			p.does(look(who, 9), api.OK, api.StOpen, "0 0 0 0 100 4").holds()
		}
	}
}

// P23.1, EvAdd: an end's errors.
func TestAddThatIsRefused(t *testing.T) {
	for who := range 2 {
		begun(t).fails(api.ErrState, add(who, 1, 1), add(who, -1, 1)).ok(closing(who, 0)).fails(api.ErrClosed, add(who, 1, 1))
		p := met(t).ok(add(who, 255, 1)).fails(api.ErrUsed, add(who, 0, 1), add(who, 255, 2))
		p.fails(api.ErrArg, add(who, -1, 1), add(who, 256, 1), add(who, math.MaxInt, 1), add(who, math.MinInt, 1))
		for i := range 14 {
			p.ok(add(who, 3*i+1, i))
		}
		p.fails(api.ErrLong, add(who, 100, 1)).ok(remove(who, 1)).does(add(who, 100, 1), api.OK, 0, "")
		p.ok(add(1-who, 100, 1)).holds()
	}
}

// P23.1, EvRemove: the path of that number, of that end.
func TestRemove(t *testing.T) {
	for who := range 2 {
		begun(t).fails(api.ErrState, remove(who, 0), remove(who, 7)).ok(closing(who, 0)).fails(api.ErrClosed, remove(who, 0))
		p := met(t).fails(api.ErrPath, remove(who, 7), remove(who, -1), remove(who, 256), remove(who, math.MaxInt), remove(who, math.MinInt))
		p.ok(add(who, 7, 1)).does(remove(who, 7), api.OK, 0, "").fails(api.ErrPath, remove(who, 7))
		p.does(remove(who, 0), api.OK, 0, "").does(look(who, 0), api.OK, api.StOpen, "0 0 0 0 100 0")
		p.does(look(1-who, 0), api.OK, api.StOpen, "0 0 0 0 100 4").does(remove(1-who, 0), api.OK, 0, "").holds()
	}
}

// P23.1, EvUpdate: ahead of StOpen, and behind it.
func TestUpdate(t *testing.T) {
	for who := range 2 {
		begun(t).fails(api.ErrState, update(who)).ok(closing(who, 0)).fails(api.ErrClosed, update(who))
		p := met(t).does(update(who), api.OK, 0, "").fails(api.ErrState, update(who))
		own, its := "0 0 1 0 100 4", "0 0 0 1 100 4"
		p.does(look(who, 0), api.OK, api.StOpen, own).does(look(1-who, 0), api.OK, api.StOpen, "0 0 0 0 100 4")
		p.does(poll(who, 0), api.OK, 1, "").ok(deliver(0)).does(look(1-who, 0), api.OK, api.StOpen, its).fails(api.ErrState, update(who))
		p.does(poll(1-who, 0), api.OK, 1, "").ok(deliver(0)).does(update(who), api.OK, 0, "").holds()
		p.ok(update(1-who)).does(look(who, 0), api.OK, api.StOpen, "0 0 2 0 100 4").does(look(1-who, 0), api.OK, api.StOpen, "0 0 1 1 100 4").holds()
		p.ok(closing(who, 0)).fails(api.ErrClosed, update(who))
	}
}

// P23.1, EvClose: with a record that is under way to the other end, and without one.
func TestClose(t *testing.T) {
	for who := range 2 {
		for _, n := range []int{0, 1, 77, api.MaxVar} {
			p := met(t).does(closing(who, n), api.OK, 0, "").under(1 - who)
			p.does(look(who, 0), api.OK, api.StClosed, "0 0 0 0 100 4").does(look(1-who, 0), api.OK, api.StOpen, "0 0 0 0 100 4").holds()
			p.ok(deliver(0)).does(look(1-who, 0), api.OK, api.StClosed, "0 0 0 0 100 4").under()
			if got, own := p.w.End(1-who).Why(), p.w.End(who).Why(); got != n || own != 0 {
				t.Errorf("Why: %d and %d, not %d and 0", got, own, n)
			}
			p.fails(api.ErrClosed, closing(who, n), closing(1-who, n), closing(who, -1), closing(1-who, math.MaxInt))
		}
		for _, from := range []*twin{begun(t), begun(t).ok(poll(0, 9)), met(t)} {
			for _, n := range append([]int{api.MaxVar + 1, math.MaxInt}, edges...) {
				from.fails(api.ErrArg, closing(who, n))
			}
		}
		for _, from := range []*twin{begun(t), begun(t).ok(poll(0, 9), drop(0)), met(t).ok(remove(who, 0))} {
			from.clone().does(closing(who, 5), api.OK, 0, "").under().fails(api.ErrState, deliver(0)).holds()
		}
	}
	begun(t).ok(poll(0, 9)).does(closing(0, 5), api.OK, 0, "").under(1).ok(deliver(0)).does(poll(1, 9), api.OK, 1, "").does(deliver(0), api.ErrClosed, 0, "")
}

// P23.1, EvInject: of 0, 400 and 401 bytes, and more.
func TestInject(t *testing.T) {
	record := func(many int) []byte { return append([]byte{api.PkRecord, 1, 0, 0, 0}, make([]byte, many-5)...) }
	for who := range 2 {
		other := byte(1 - who)
		r := record(283)
		r[1] = other
		for _, p := range []*twin{begun(t), met(t)} {
			p.fails(api.ErrShort, inject(who, nil), inject(who, []byte{}))
			p.fails(api.ErrPacket, inject(who, []byte{9}), inject(who, make([]byte, 400)), inject(who, stream(400)))
			p.fails(api.ErrLong, inject(who, make([]byte, 401)), inject(who, stream(401)), inject(who, stream(5000)))
			p.under()
		}
		met(t).fails(api.ErrForged, inject(who, r)).ok(closing(who, 0)).fails(api.ErrClosed, inject(who, r), inject(who, nil), inject(who, stream(400))).
			fails(api.ErrLong, inject(who, stream(401)))
		begun(t).fails(api.ErrState, inject(who, r))
	}
}

// P23.1, EvInject: what an end would take, it takes.
func TestInjectOfADatagramThatIsWhole(t *testing.T) {
	p := begun(t)
	hello, _ := p.w.End(0).Clone().Poll(9)
	p.ok(poll(0, 9)).does(inject(1, hello[0]), api.OK, 0, "").does(inject(0, hello[0]), api.ErrState, 0, "").under(1)
	p.does(look(1, 0), api.OK, api.StOpen, "0 0 0 0 100 4").ok(poll(1, 9), deliver(1)).holds()
	p.ok(write(0, stream(100)))
	l, _ := p.w.End(0).Clone().Poll(9)
	p.does(inject(1, l[0]), api.OK, 0, "").does(read(1, 200), api.OK, 100, string(stream(100))).does(inject(1, l[0]), api.ErrOld, 0, "")
	p.does(inject(1, sample.Turned(l[0], 300)), api.ErrOld, 0, "").holds()
}

// P23.1, EvLook: of each end in each state, with a path that is there, and one that is not; its bytes digit by digit.
func TestLook(t *testing.T) {
	for who := range 2 {
		p := begun(t).does(look(who, 0), api.OK, api.StBegin, "0 0 0 0 0 0").ok(write(who, stream(2000)), tick(1<<40-4100))
		p.does(look(who, 9), api.OK, api.StBegin, "1099511623676 2000 0 0 0 0")
	}
	p := begun(t).ok(tick(3), poll(0, 9), write(0, stream(7))).does(look(0, 0), api.OK, api.StWaits, "3 7 0 0 0 0").ok(closing(0, 4))
	p.does(look(0, 0), api.OK, api.StClosed, "3 7 0 0 0 0")
	a, b := configs()
	a.Public = api.Key{}
	twinOf(t, a, b).ok(tick(2)).does(poll(0, 9), api.ErrZero, 0, "").does(look(0, 0), api.OK, api.StFailed, "2 0 0 0 0 0").
		does(look(1, 0), api.OK, api.StBegin, "2 0 0 0 0 0")

	p = met(t).ok(write(0, stream(500)), poll(0, 9), deliver(0), deliver(0), tick(30), poll(1, 9), deliver(2))
	p.does(look(0, 0), api.OK, api.StOpen, "30 244 0 0 91 6").does(look(1, 0), api.OK, api.StOpen, "30 0 0 0 100 4")
	p.ok(add(0, 17, 1), update(0)).does(look(0, 17), api.OK, api.StOpen, "30 244 1 0 100 0").does(look(0, 0), api.OK, api.StOpen, "30 244 1 0 91 4")
	for _, path := range []int{1, 256, -1, math.MaxInt, math.MinInt} {
		p.does(look(0, path), api.OK, api.StOpen, "30 244 1 0 0 0")
	}
	p.ok(closing(1, 9)).does(look(1, 0), api.OK, api.StClosed, "30 0 0 0 100 4").does(look(1, 3), api.OK, api.StClosed, "30 0 0 0 0 0").holds()
}

// P23.1, EvLook: it changes nothing.
func TestLookChangesNothing(t *testing.T) {
	for _, x := range standings(t) {
		before := deep(x.w)
		for _, path := range []int{0, 9, -1, 300} {
			for who := range 2 {
				want := lookOf(x.w.End(who), path)
				if got := x.answers(look(who, path)); !same(got, want) {
					t.Errorf("%s: %+v, not %+v", x.name, got, want)
				}
			}
		}
		if deep(x.w) != before {
			t.Errorf("%s: a look changes something", x.name)
		}
	}
}

// R7: what is handed in is neither changed nor kept, nor the room behind it; what is answered is the caller's own.
func TestWhatIsHandedInAndWhatIsAnswered(t *testing.T) {
	p := begun(t)
	hello, _ := p.w.End(0).Clone().Poll(9)
	handed := func(make func(b []byte) api.Event, whole []byte) {
		t.Helper()
		b := sample.Roomy(whole)
		want := sample.Whole(b)
		p.ok(make(b))
		if !bytes.Equal(sample.Whole(b), want) {
			t.Error("what was handed in is changed")
		}
		before := deep(p.w)
		sample.Spoil(b)
		if deep(p.w) != before {
			t.Error("what was handed in is kept")
		}
		sample.Spoil(b) // the other reckoning may have kept what it was handed
	}
	p.ok(poll(0, 9))
	handed(func(b []byte) api.Event { return inject(1, b) }, hello[0])
	p.ok(poll(1, 9), deliver(1))
	handed(func(b []byte) api.Event { return write(0, b) }, stream(300))
	l, _ := p.w.End(0).Clone().Poll(9)
	handed(func(b []byte) api.Event { return inject(1, b) }, l[0])
	handed(func(b []byte) api.Event { return inject(1, b) }, l[1])

	for _, e := range []api.Event{read(1, 90), look(0, 0), look(1, 0)} {
		got := p.answers(e)
		before := deep(p.w)
		sample.Spoil(got.Bytes)
		if deep(p.w) != before {
			t.Errorf("what %+v answers is not the caller's own", e)
		}
	}
	p.ok(poll(0, 9), poll(1, 9))
	before := deep(p.w)
	sample.Fill(p.w.Under(), 7)
	if deep(p.w) != before {
		t.Error("what Under answers is not the caller's own")
	}
	p.does(look(0, 0), api.OK, api.StOpen, "0 300 0 0 100 4").does(read(1, 999), api.OK, 256-90, string(stream(256)[90:])).holds()
}
