package conn_test

import (
	"bytes"
	"fmt"
	"slices"
	"testing"

	"sheave/api"
	"sheave/conn"
	"sheave/packet"
	"sheave/sample"
)

// datagram is one under way.
type datagram struct {
	to int
	b  []byte
}

// play are two ends, and what is between them, in drawn calls.
type play struct {
	t           *testing.T
	d           func(below int) int
	seed        uint64
	ends        [2]*pair
	under       []datagram
	wrote, read [2][]byte // by each end
	used        [2]map[api.Use]bool
	came        [2]int // records that were taken
}

func newPlay(t *testing.T, seed uint64) *play {
	a, b := configs(int(seed % 3))
	p := &play{t: t, d: sample.Draw(seed), seed: seed, ends: [2]*pair{pairOf(t, a), pairOf(t, b)}}
	p.used = [2]map[api.Use]bool{{}, {}}
	return p
}

// meets is the handshake, without anything lost.
func (p *play) meets() *play {
	for range 2 {
		for who := range 2 {
			p.polls(who, 0)
			p.arrives()
		}
	}
	return p
}

// sends puts what an end gave under way. No nonce may be among it that was used.
func (p *play) sends(who int, l ...[]byte) {
	p.t.Helper()
	for _, b := range l {
		p.under = append(p.under, datagram{1 - who, b})
		x, e := packet.Parse(b)
		if e != api.OK {
			p.t.Fatalf("seed %d: %d gives %x, which is no packet", p.seed, who, b)
		}
		if x.Kind != api.PkRecord {
			continue
		}
		use := api.Use{Epoch: x.Epoch, Path: x.Path, Counter: x.Counter}
		if p.used[who][use] || x.Role != who {
			p.t.Fatalf("seed %d: %d seals %+v of the role %d again", p.seed, who, use, x.Role)
		}
		p.used[who][use] = true
	}
}

func (p *play) polls(who, most int) {
	p.t.Helper()
	p.sends(who, p.ends[who].poll(most)...)
}

func (p *play) writes(who, many int) {
	p.t.Helper()
	b := sample.Drawn(p.seed+uint64(len(p.wrote[who])*2+who), many)
	p.wrote[who] = append(p.wrote[who], b[:p.ends[who].write(b)]...)
}

// reads holds what is read to what the other end wrote.
func (p *play) reads(who, most int) {
	p.t.Helper()
	p.read[who] = append(p.read[who], p.ends[who].read(most)...)
	if !bytes.HasPrefix(p.wrote[1-who], p.read[who]) {
		p.t.Fatalf("seed %d: %d read what was not written, among %d bytes", p.seed, who, len(p.read[who]))
	}
}

func (p *play) delivers(x datagram) {
	p.t.Helper()
	if p.ends[x.to].deliver(x.b) == api.OK {
		p.came[x.to]++
	}
}

// arrives has all that is under way arrive.
func (p *play) arrives() {
	p.t.Helper()
	for _, x := range p.under {
		p.delivers(x)
	}
	p.under = nil
}

// take takes a drawn datagram, if one is under way.
func (p *play) take(stays bool) (datagram, bool) {
	if len(p.under) == 0 {
		return datagram{}, false
	}
	i := p.d(len(p.under))
	x := p.under[i]
	if !stays {
		p.under = slices.Delete(slices.Clone(p.under), i, i+1)
	}
	return x, true
}

// harm has something arrive that no end gave: a datagram that was changed, cut, or made up. An end that is open takes none of them.
func (p *play) harm() {
	p.t.Helper()
	x, is := p.take(true)
	if !is {
		x = datagram{p.d(2), sample.Drawn(uint64(p.d(1000)), 1+p.d(60))}
		x.b[0] = byte(p.d(5))
	}
	whole := x.b
	switch p.d(4) {
	case 0:
		x.b = sample.Turned(x.b, p.d(8*len(x.b)))
	case 1:
		x.b = x.b[:p.d(len(x.b))]
	case 2:
		x.b = sample.Turned(x.b, 8*len(x.b)-1-p.d(min(128, 8*len(x.b))))
	case 3:
		x.to = 1 - x.to
	}
	open := p.ends[x.to].m.state == api.StOpen
	before := see(p.ends[x.to].c)
	if e := p.ends[x.to].deliver(x.b); open && e == api.OK && !bytes.Equal(x.b, whole) || open && see(p.ends[x.to].c) != before && e != api.OK {
		p.t.Fatalf("seed %d: %x is taken: error %d", p.seed, x.b, e)
	}
}

// call makes a drawn one.
func (p *play) call() {
	p.t.Helper()
	who := p.d(2)
	end := p.ends[who]
	switch p.d(30) {
	case 0, 1, 2:
		p.writes(who, p.d(400))
	case 3, 4:
		p.reads(who, []int{p.d(300), p.d(20) - 5, 5000}[p.d(3)])
	case 5, 6, 7:
		end.tick([]int{p.d(10), p.d(60), p.d(400)}[p.d(3)])
	case 8, 9, 10, 11, 12, 13:
		p.polls(who, []int{64, p.d(5), 100, 9}[p.d(4)])
	case 14, 15, 16, 17, 18, 19, 20, 21:
		if x, is := p.take(false); is {
			p.delivers(x)
		}
	case 22, 23:
		p.take(false)
	case 24:
		if x, is := p.take(true); is {
			p.delivers(x)
		}
	case 25, 26:
		p.harm()
	case 27:
		end.add([]int{1 + p.d(4), p.d(300) - 20}[p.d(2)], token(p.d(9)))
	case 28:
		end.update()
	case 29:
		end.remove([]int{1 + p.d(4), 1 + p.d(300)}[p.d(2)]) // never 0: in the end there must be a live path
	}
	if len(p.under) > 60 {
		p.under = p.under[20:]
	}
}

// settles lets all that is sent arrive, until all that was written was read.
func (p *play) settles() {
	p.t.Helper()
	p.under = nil
	for range 400 {
		for who := range 2 {
			p.polls(who, 64)
			p.arrives()
			p.reads(1-who, 5000)
		}
		if len(p.read[0]) == len(p.wrote[1]) && len(p.read[1]) == len(p.wrote[0]) && p.ends[0].c.Left()+p.ends[1].c.Left() == 0 {
			return
		}
		p.ends[0].tick(40)
		p.ends[1].tick(40)
	}
	p.t.Fatalf("seed %d: read %d of %d and %d of %d; left %d and %d", p.seed, len(p.read[0]), len(p.wrote[1]), len(p.read[1]), len(p.wrote[0]),
		p.ends[0].c.Left(), p.ends[1].c.Left())
}

// P22.1 to P22.7: many drawn calls, held against the chapter's words at each step; what is read is the beginning of what was written,
// no nonce is used twice, and all arrives when all that is sent does.
func TestDrawn(t *testing.T) {
	t.Parallel()
	read, came := 0, 0
	for seed := range uint64(72) {
		p := newPlay(t, seed)
		if seed%4 != 0 { // else the handshake is among what is drawn
			p.meets()
		}
		for i := range 500 {
			p.call()
			if i%60 == 0 {
				p.ends[i/60%2].look()
			}
		}
		p.ends[0].look()
		p.ends[1].look()
		p.settles()
		for _, x := range p.ends {
			x.glance()
		}
		read += len(p.read[0]) + len(p.read[1])
		came += p.came[0] + p.came[1]
	}
	if read < 72*1000 || came < 72*100 {
		t.Fatalf("%d bytes were read, and %d records taken, in all", read, came)
	}
}

// P22.5, P22.7: plays that end by a close: it is told once, and nothing is done behind it.
func TestDrawnAndClosed(t *testing.T) {
	t.Parallel()
	for seed := range uint64(40) {
		p := newPlay(t, seed+500).meets()
		for range 120 {
			p.call()
		}
		who := int(seed % 2)
		b := p.ends[who].close(p.d(1000))
		if b == nil {
			t.Fatalf("seed %d: none", p.seed)
		}
		p.sends(who, b)
		for range 60 {
			p.call()
		}
		p.delivers(datagram{1 - who, b})
		if got := p.ends[1-who].c.State(); got != api.StClosed {
			t.Fatalf("seed %d: the state %d", p.seed, got)
		}
		many := [2]int{len(p.used[0]), len(p.used[1])}
		for range 60 {
			p.call()
		}
		if many != [2]int{len(p.used[0]), len(p.used[1])} {
			t.Fatalf("seed %d: something was sent", p.seed)
		}
	}
}

// P22.6, R7: clones that go on by turns, with drawn calls of their own.
func TestClonesGoOn(t *testing.T) {
	t.Parallel()
	for seed := range uint64(12) {
		p := newPlay(t, seed+800).meets()
		for range 200 {
			p.call()
		}
		x := *p
		x.d = sample.Draw(seed + 900)
		x.ends = [2]*pair{p.ends[0].clone(), p.ends[1].clone()}
		x.under = slices.Clone(p.under)
		for who := range 2 {
			x.wrote[who], x.read[who] = slices.Clone(p.wrote[who]), slices.Clone(p.read[who])
			x.used[who] = map[api.Use]bool{}
			for use := range p.used[who] {
				x.used[who][use] = true
			}
		}
		for range 100 {
			p.call()
			x.ends[0].glance()
			x.call()
			p.ends[1].glance()
		}
		p.settles()
		x.settles()
	}
}

// P22.7: one live path on which all arrives is enough, whatever becomes of the others, on which nothing does; by each policy.
func TestOnePathIsEnough(t *testing.T) {
	for _, policy := range []int{api.Fastest, api.Turns} {
		for _, good := range []int{0, 7} {
			x, y := configs(policy)
			ends := [2]*conn.Conn{conn.New(x), conn.New(y)}
			carry := func(path int) {
				for who, c := range ends {
					l, e := c.Poll(64)
					if e != api.OK {
						t.Fatalf("Poll: error %d", e)
					}
					for _, b := range l {
						if b[0] != api.PkRecord || path < 0 || int(b[2]) == path {
							ends[1-who].Deliver(b)
						}
					}
				}
			}
			carry(-1)
			carry(-1)
			ends[0].Add(7, token(1))
			carry(-1)
			carry(-1)
			carry(-1)
			var read [2][]byte
			want := stream(6000)
			var wrote [2]int
			for range 3000 {
				for who, c := range ends {
					n, _ := c.Write(want[wrote[who]:])
					wrote[who] += n
					b, _ := c.Read(700)
					read[who] = append(read[who], b...)
				}
				carry(good)
				ends[0].Tick(30)
				ends[1].Tick(30)
			}
			for who := range 2 {
				if !bytes.Equal(read[who], want) {
					t.Errorf("policy %d, path %d: %d read %d bytes of %d", policy, good, who, len(read[who]), len(want))
				}
			}
		}
	}
}

// P22.7: records that arrive long behind others, over several epochs, at both ends.
func TestNoncesOverEpochs(t *testing.T) {
	p := newPlay(t, 3).meets()
	for round := range 60 {
		for who := range 2 {
			p.ends[who].add(1+round%20, token(round))
			p.ends[who].update()
			p.writes(who, 200)
			p.polls(who, 64)
		}
		if round%3 != 1 {
			p.arrives()
		}
		p.reads(0, 5000)
		p.reads(1, 5000)
		p.ends[0].tick(90)
		p.ends[1].tick(90)
	}
	p.settles()
	if out, _ := p.ends[0].c.Epochs(); out < 10 {
		t.Fatalf("only %d epochs", out)
	}
}

// busy are two ends that are open, with so many paths.
func busy(b *testing.B, many int) (x, y *conn.Conn) {
	p, q := configs(api.Turns)
	x, y = conn.New(p), conn.New(q)
	carry := func() {
		for range 3 {
			l, _ := x.Poll(64)
			for _, d := range l {
				y.Deliver(d)
			}
			l, _ = y.Poll(64)
			for _, d := range l {
				x.Deliver(d)
			}
		}
	}
	carry()
	for id := 1; id < many; id++ {
		x.Add(id, token(id))
	}
	carry()
	if x.Path(many-1).State != api.PathLive {
		b.Fatal(fmt.Sprintf("%+v", x.Path(many-1)))
	}
	return x, y
}

// BenchmarkCarry is a write of 2048 bytes, until all of it was read and has been answered.
func BenchmarkCarry(b *testing.B) {
	x, y := busy(b, 4)
	text := stream(2048)
	b.SetBytes(2048)
	for b.Loop() {
		x.Write(text)
		for x.Left() > 0 {
			l, _ := x.Poll(64)
			for _, d := range l {
				y.Deliver(d)
			}
			y.Read(2048)
			l, _ = y.Poll(64)
			for _, d := range l {
				x.Deliver(d)
			}
		}
	}
}

func BenchmarkPollOfNothing(b *testing.B) {
	x, _ := busy(b, 16)
	for b.Loop() {
		x.Poll(64)
	}
}

func BenchmarkTick(b *testing.B) {
	x, _ := busy(b, 16)
	for b.Loop() {
		x.Tick(1)
	}
}

func BenchmarkClone(b *testing.B) {
	x, _ := busy(b, 16)
	x.Write(stream(2048))
	for b.Loop() {
		x.Clone()
	}
}

func BenchmarkHandshake(b *testing.B) {
	for b.Loop() {
		busy(b, 1)
	}
}
