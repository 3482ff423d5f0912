package world_test

import (
	"bytes"
	"slices"
	"testing"

	"sheave/api"
	"sheave/sample"
	"sheave/world"
)

// play is a world in which drawn events are done, what was written, and what was read.
type play struct {
	*twin
	d           func(below int) int
	seed        uint64
	wrote, read [2][]byte // by each end
}

func newPlay(t *testing.T, seed uint64) *play {
	a, b := configs()
	a.Policy, b.Policy = int(seed%2), int(seed/2%2)
	a.Draw[9], b.Draw[9] = byte(seed), byte(seed>>8)
	return &play{twin: twinOf(t, a, b), d: sample.Draw(seed), seed: seed}
}

// does does an event, of whichever kind, and keeps what goes in and comes out. What is read must be the beginning of what was written.
func (p *play) does(e api.Event) api.Answer {
	p.t.Helper()
	got := p.answers(e)
	switch {
	case e.Kind == api.EvWrite:
		p.wrote[e.Who] = append(p.wrote[e.Who], e.Bytes[:got.N]...)
	case e.Kind == api.EvRead && got.Code == api.OK:
		p.read[e.Who] = append(p.read[e.Who], got.Bytes...)
		if !bytes.HasPrefix(p.wrote[1-e.Who], p.read[e.Who]) {
			p.t.Fatalf("seed %d: %d read what was not written, among %d bytes", p.seed, e.Who, len(p.read[e.Who]))
		}
	}
	return got
}

// meets is the handshake, without anything lost.
func (p *play) meets() *play {
	p.ok(poll(0, 9), deliver(0), poll(1, 9), deliver(0))
	return p
}

// drawn is an event of the table, but one that is injected, or a close.
func (p *play) drawn() api.Event {
	who, n := p.d(2), p.d(130)-1
	switch p.d(32) {
	case 0, 1, 2:
		at := len(p.wrote[who])
		return write(who, sample.Drawn(p.seed*2+uint64(at*2+who), p.d(400)))
	case 3, 4, 5:
		return read(who, []int{p.d(300), p.d(20) - 5, 5000}[p.d(3)])
	case 6, 7, 8:
		return tick([]int{p.d(10), p.d(60), p.d(400), -p.d(3)}[p.d(4)])
	case 9, 10, 11, 12, 13, 14:
		return poll(who, []int{64, p.d(5), 100, 9}[p.d(4)])
	case 15, 16, 17, 18, 19, 20, 21:
		return deliver([]int{0, n}[p.d(2)])
	case 22, 23:
		return drop(n)
	case 24, 25:
		return double(n)
	case 26, 27:
		return turn(n, p.d(300)-90)
	case 28:
		return add(who, []int{1 + p.d(4), p.d(300) - 20}[p.d(2)], p.d(9)-4)
	case 29:
		return update(who)
	case 30:
		return remove(who, []int{1 + p.d(4), 1 + p.d(300)}[p.d(2)]) // never 0: in the end there must be a live path
	}
	return look(who, p.d(6))
}

// P23.1, P23.2: many drawn events, held against the chapter's words at each step; what is read is the beginning of what was written.
func TestDrawn(t *testing.T) {
	t.Parallel()
	bytesRead, turned := 0, 0
	for seed := range uint64(60) {
		p := newPlay(t, seed)
		if seed%4 != 0 { // else the handshake is among what is drawn
			p.meets()
		}
		for i := range 700 {
			if p.does(p.drawn()).Code == api.ErrForged {
				turned++
			}
			if i%100 == 99 {
				p.holds()
			}
		}
		bytesRead += len(p.read[0]) + len(p.read[1])
	}
	if bytesRead < 60*1000 || turned < 60*10 {
		t.Fatalf("%d bytes were read, and %d datagrams refused as forged, in all", bytesRead, turned)
	}
}

// P23.2, T1: what is lost, doubled, turned round and turned, on the hardest of nets, for a long time, with ends that close at last.
func TestDrawnUntilTheClose(t *testing.T) {
	t.Parallel()
	for seed := range uint64(24) {
		p := newPlay(t, seed+3000).meets()
		for range 400 {
			p.does(p.drawn())
			if n := len(p.w.Under()); n > 0 && p.d(2) == 0 {
				p.does([]api.Event{double(p.d(n)), drop(p.d(n)), deliver(n - 1), turn(p.d(n), p.d(128))}[p.d(4)])
			}
		}
		p.does(closing(int(seed%2), p.d(100)))
		for range 200 {
			p.does(p.drawn())
		}
		who := int(seed % 2)
		if got := p.does(read(who, 9)); got.Code != api.ErrClosed {
			t.Fatalf("seed %d: a closed end reads: %+v", seed, got)
		}
		p.holds()
	}
}

// T1: datagrams that are injected, which no end sealed, do no harm behind the handshake.
func TestInjectedDatagramsThatNoEndSealed(t *testing.T) {
	t.Parallel()
	for seed := range uint64(20) {
		p := newPlay(t, seed+5000).meets()
		for i := range 400 {
			p.does(p.drawn())
			if i%3 != 0 {
				continue
			}
			who := p.d(2)
			b := sample.Drawn(uint64(p.d(100000)), p.d(402))
			if len(p.m.bytes) > 0 && p.d(2) == 0 {
				b = bytes.Clone(p.m.bytes[p.d(len(p.m.bytes))])
				b = sample.Turned(b, p.d(8*len(b)))
			} else if len(b) > 4 {
				copy(b, []byte{byte(1 + p.d(3)), byte(1 - who), byte(p.d(3)), 0, byte(p.d(2))})
			}
			before := see(p.w.End(who))
			if got := p.does(inject(who, b)); got.Code == api.OK || see(p.w.End(who)) != before {
				t.Fatalf("seed %d: %x is taken: %+v", seed, b, got)
			}
		}
	}
}

// pathOf is the path of a datagram under way; -1 of one of the handshake.
func (p *play) pathOf(at int) int {
	if b := p.m.bytes[at]; b[0] == api.PkRecord {
		return int(b[2])
	}
	return -1
}

// net is what becomes of datagrams from some time on: on one path all arrive, within some ticks; on the others anything may happen.
type net struct {
	good, within int
	others       func(p *play, to int) int // what happens to one on another path, if it goes there: an event's kind
}

// goesOn lets so many ticks go by, in which what is under way on the good path arrives, in any order.
func (p *play) goesOn(n net) {
	p.t.Helper()
	first := p.d(n.within + 1)
	p.does(tick(first))
	for {
		var l []int
		for at := range p.m.to {
			if p.pathOf(at) == n.good {
				l = append(l, at)
			}
		}
		if len(l) == 0 {
			break
		}
		p.does(api.Event{Kind: []int{api.EvDeliver, api.EvDeliver, api.EvDeliver, api.EvDouble}[p.d(4)], N: l[p.d(len(l))]})
	}
	for at := len(p.m.to) - 1; at >= 0; at-- {
		p.does(api.Event{Kind: n.others(p, p.m.to[at]), N: at, M: p.d(128)})
	}
	for len(p.m.to) > 12 {
		p.does(drop(0))
	}
	p.does(tick(n.within - first + 20)) // some, even if what arrives does so at once
}

// polls has an end give what is to be sent, for which there must be room.
func (p *play) polls(who int) {
	p.t.Helper()
	before := len(p.m.to)
	if got := p.does(poll(who, 8)); before+got.N > api.MaxBag {
		p.t.Fatalf("seed %d: there is no room for %d more than %d", p.seed, got.N, before)
	}
}

// settles has both ends be polled and read, until all that was written was read.
func (p *play) settles(n net) {
	p.t.Helper()
	for len(p.m.to) > 12 {
		p.does(drop(0))
	}
	for i := range 1000 {
		for who := range 2 {
			if i < 12 {
				p.does(write(who, sample.Drawn(p.seed+uint64(i), p.d(300))))
			}
			p.polls(who)
			p.goesOn(n)
			p.does(read(who, []int{5000, 100}[p.d(2)]))
			p.does(read(1-who, 5000))
		}
		if i >= 12 && len(p.read[0]) == len(p.wrote[1]) && len(p.read[1]) == len(p.wrote[0]) && p.w.End(0).Left()+p.w.End(1).Left() == 0 {
			return
		}
	}
	p.t.Fatalf("seed %d: path %d within %d: read %d of %d and %d of %d; left %d and %d", p.seed, n.good, n.within, len(p.read[0]), len(p.wrote[1]),
		len(p.read[1]), len(p.wrote[0]), p.w.End(0).Left(), p.w.End(1).Left())
}

// live are the paths that are so at both ends.
func (p *play) live() []int {
	var l []int
	for id := range 256 {
		if p.w.End(0).Path(id).State == api.PathLive && p.w.End(1).Path(id).State == api.PathLive {
			l = append(l, id)
		}
	}
	return l
}

// others are what may become of what goes on the other paths.
var others = []func(p *play, to int) int{
	func(p *play, to int) int { return api.EvDrop },
	func(p *play, to int) int { return api.EvDeliver },
	func(p *play, to int) int { return api.EvTurn },
	func(p *play, to int) int { return api.EvDouble },
	func(p *play, to int) int { return []int{api.EvDeliver, api.EvDrop}[to] },
	func(p *play, to int) int { return []int{api.EvDrop, api.EvDeliver}[to] },
	func(p *play, to int) int { return fates[p.d(4)] },
	func(p *play, to int) int { return []int{api.EvDrop, api.EvDrop, api.EvDrop, api.EvDeliver}[p.d(4)] },
}

// P23.3: whatever was ahead of it, one path on which all arrives is enough, and whatever becomes of the others.
func TestOnePathIsEnough(t *testing.T) {
	t.Parallel()
	paths := map[int]int{}
	for seed := range uint64(64) {
		p := newPlay(t, seed+7000).meets()
		for id := range 3 {
			p.ok(add(id%2, 2+id, id), poll(id%2, 9), deliver(0), poll(1-id%2, 9), deliver(0))
		}
		for range 300 {
			p.does(p.drawn())
		}
		l := p.live()
		n := net{l[p.d(len(l))], []int{0, 20, 130, 700, 2500}[seed%5], others[seed%8]}
		paths[n.good]++
		p.settles(n)
		p.holds()
	}
	if len(paths) < 3 {
		t.Fatalf("the paths on which all arrived: %v", paths)
	}
}

// P23.3: the same, with epochs that go on.
func TestOnePathIsEnoughOverEpochs(t *testing.T) {
	t.Parallel()
	for seed := range uint64(16) {
		p := newPlay(t, seed+9000).meets()
		p.ok(add(0, 2, 1), poll(0, 9), deliver(0), poll(1, 9), deliver(0))
		n := net{[]int{0, 2}[seed%2], []int{0, 90, 400}[seed%3], others[seed%8]}
		for range 30 {
			for who := range 2 {
				p.does(write(who, sample.Drawn(seed, p.d(500))))
				p.does(update(who))
				p.polls(who)
				p.goesOn(n)
			}
		}
		if out, in := p.w.End(0).Epochs(); out < 5 || in < 5 {
			t.Fatalf("seed %d: only %d and %d epochs", seed, out, in)
		}
		p.settles(n)
	}
}

// P23.3: what is lost for a long time goes in the end, even if all that is under way is lost, and all that is said of it.
func TestBehindALongSilence(t *testing.T) {
	for _, policy := range []int{api.Fastest, api.Turns} {
		p := newPlay(t, uint64(policy)).meets()
		for i := range 40 {
			for who := range 2 {
				p.does(write(who, stream(100)))
				p.does(poll(who, 64))
			}
			p.does(tick(137 * i))
			for range p.m.to {
				p.does(drop(0))
			}
		}
		p.settles(net{0, 50, others[0]})
	}
}

// P23.2, P23.3: of nothing that was read, more than there is room for does not go; when it is read, all goes on.
func TestWhatIsNotRead(t *testing.T) {
	for who := range 2 {
		p := newPlay(t, 11).meets()
		for range 60 {
			p.does(write(who, sample.Drawn(uint64(len(p.wrote[who])), 300)))
			p.polls(who)
			p.goesOn(net{0, 30, others[0]})
			p.polls(1 - who)
			p.goesOn(net{0, 30, others[0]})
		}
		if got := len(p.wrote[who]); got != 4096 {
			t.Errorf("%d bytes were written", got)
		}
		p.settles(net{0, 30, others[0]})
	}
}

// R6: what an event answers hangs on the events so far alone: two worlds, and a clone of one, go the same way.
func TestTheSameEachTime(t *testing.T) {
	for seed := range uint64(6) {
		p := newPlay(t, seed+70).meets()
		q := newPlay(t, seed+70).meets()
		for range 200 {
			e := p.drawn()
			if x, y := p.does(e), q.does(e); !same(x, y) || !slices.Equal(p.w.Under(), q.w.Under()) {
				t.Fatalf("%+v: %+v, then %+v", e, x, y)
			}
		}
		if deep(p.w) != deep(q.w) || deep(p.w.Clone()) != deep(q.w) {
			t.Fatalf("seed %d: two worlds with the same events are not the same", seed)
		}
	}
}

// R7: clones that go on by turns, with drawn events of their own.
func TestClonesGoOn(t *testing.T) {
	t.Parallel()
	for seed := range uint64(8) {
		p := newPlay(t, seed+800).meets()
		for range 200 {
			p.does(p.drawn())
		}
		x := *p
		x.twin, x.d = p.clone(), sample.Draw(seed+900)
		for who := range 2 {
			x.wrote[who], x.read[who] = slices.Clone(p.wrote[who]), slices.Clone(p.read[who])
		}
		for range 150 {
			p.does(p.drawn())
			x.does(x.drawn())
		}
		p.holds()
		x.holds()
		p.settles(net{0, 40, others[seed]})
		x.settles(net{0, 60, others[(seed+3)%8]})
	}
}

// BenchmarkCarry is a write of 2048 bytes, until all of it was read and has been answered.
func BenchmarkCarry(b *testing.B) {
	x, y := configs()
	w := world.New(x, y)
	for _, e := range []api.Event{poll(0, 9), deliver(0), poll(1, 9), deliver(0)} {
		w.Do(e)
	}
	text := stream(2048)
	b.SetBytes(2048)
	for b.Loop() {
		w.Do(write(0, text))
		for w.End(0).Left() > 0 {
			for who := range 2 {
				w.Do(poll(who, 64))
				for range w.Under() {
					w.Do(deliver(0))
				}
			}
			w.Do(read(1, 2048))
			w.Do(tick(1))
		}
	}
}
