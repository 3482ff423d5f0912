package sched_test

import (
	"maps"
	"math"
	"slices"
	"testing"

	"sheave/api"
	"sheave/sample"
	"sheave/sched"
)

var policies = []int{api.Fastest, api.Turns}

// P21.1 to P21.4: scheds of all kinds, and each call.
func TestEachHistoryAndCall(t *testing.T) {
	ids := []int{math.MinInt, -1, 0, 1, 2, 256, math.MaxInt}
	numbers := []int{math.MinInt, -1, 0, 3, 5, 9, 12, 103, 120, 141, api.MaxClock, api.MaxClock + 1, api.MaxCounter - 1, api.MaxCounter,
		api.MaxCounter + 1, math.MaxInt}
	for _, policy := range policies {
		for _, p := range histories(t, policy) {
			p.look()
			for _, id := range ids {
				c := p.clone()
				c.open(id).look()
				c = p.clone()
				c.close(id)
				c.look()
				c.open(id).look()
				for _, n := range numbers {
					for _, call := range []func(c *pair){
						func(c *pair) { c.sent(id, n, 7, one(7)) },
						func(c *pair) { c.sent(id, 130, n, one(7)) },
						func(c *pair) { c.got(id, n, nil, 120) },
						func(c *pair) { c.got(id, 5, rows(n, 14, 1, n), n) },
						func(c *pair) { c.late(id, n, 3) },
						func(c *pair) { c.late(id, 130, n) },
						func(c *pair) { c.pick([]int{2, n, id}, []int{n, 4}) },
					} {
						c := p.clone()
						call(c)
						c.look()
					}
				}
			}
			p.look()
		}
	}
}

// P21.3: every set of five records that are under way, every top, and each two ranges: overlapping, touching, apart, turned round.
func TestEachGot(t *testing.T) {
	for set := range 1 << 5 {
		p := newPair(t, api.Fastest).open(0)
		for c := range 5 {
			if set>>c&1 == 1 {
				p.sent(0, c, c, one(c))
			}
		}
		for top := -1; top < 9; top++ {
			for code := range 6 * 6 * 6 * 6 {
				l := rows(code%6, code/6%6, code/36%6, code/216)
				s, m := p.s.Clone(), p.m.clone()
				lost, ticks := s.Got(0, top, l, 9)
				if want, wantTicks := m.got(0, top, l, 9); !slices.Equal(lost, want) || ticks != wantTicks {
					t.Fatalf("%b: Got(0, %d, %v, 9): %v, %d, not %v, %d", set, top, l, lost, ticks, want, wantTicks)
				}
				is(t, s, 0, m.window(0), len(m.under(0)))
			}
		}
	}
}

// P21.3: every row of moments of four records, and each Late.
func TestEachLate(t *testing.T) {
	for code := range 4 * 4 * 4 * 4 {
		p := newPair(t, api.Turns).open(0)
		for c, now := range []int{code % 4, code / 4 % 4, code / 16 % 4, code / 64} {
			p.sent(0, c, now, one(c))
		}
		for now := -1; now < 6; now++ {
			for age := -1; age < 6; age++ {
				p.clone().late(0, now, age)
			}
		}
	}
}

// drawing draws calls without a rule.
type drawing struct {
	d    func(below int) int
	most int         // paths that calls mostly go to
	now  int         // a clock that mostly goes on
	next map[int]int // of each path the counter that is mostly sent next
}

func newDrawing(seed uint64) *drawing {
	return &drawing{sample.Draw(seed), []int{1, 3, 6, 20}[seed%4], 0, map[int]int{}}
}

// odd is now and then a number at which sums may go wrong, and else the one that is given.
func (x *drawing) odd(n int) int {
	if x.d(40) == 0 {
		return edges()[x.d(len(edges()))]
	}
	return n
}

func (x *drawing) id() int { return x.odd(x.d(x.most)) }

func (x *drawing) moment() int {
	x.now += x.d(5)
	return x.odd(x.now - x.d(3))
}

// near is a counter about those that were sent last.
func (x *drawing) near(id int) int { return x.odd(x.next[id] - x.d(12) + 2) }

func (x *drawing) ranges(id int) []api.Range {
	var l []api.Range
	for range x.d(4) {
		at := x.near(id)
		l = append(l, api.Range{From: at, To: x.odd(at + x.d(5) - 1)})
	}
	return l
}

func (x *drawing) list(many int, draw func() int) []int {
	var l []int
	for range x.d(many + 1) {
		l = append(l, draw())
	}
	return l
}

// carries are ranges that tell by their numbers which record they are of; now and then there are none, or several.
func (x *drawing) carries(number int) []api.Range {
	var l []api.Range
	for i := range []int{0, 1, 1, 1, 2, 3}[x.d(6)] {
		l = append(l, api.Range{From: 10*number + i, To: 10*number + i + x.d(3)})
	}
	return l
}

// call makes one, and tells what was told by it.
func (x *drawing) call(p *pair, number int) []api.Range {
	p.t.Helper()
	id := x.id()
	switch x.d(20) {
	case 0, 1:
		p.open(id)
	case 2:
		if x.d(3) == 0 {
			x.next[id] = x.d(4)
			return p.close(id)
		}
	case 3, 4, 5, 6, 7, 8, 9:
		counter := x.odd(x.next[id] + []int{0, 0, 0, 0, 1, 3, -1, -2}[x.d(8)])
		p.sent(id, counter, x.moment(), x.carries(number))
		if counter >= x.next[id] && counter < 1<<40 {
			x.next[id] = counter + 1
		}
	case 10, 11, 12:
		lost, _ := p.got(id, x.near(id), x.ranges(id), x.moment())
		return lost
	case 13, 14:
		return p.late(id, x.moment(), x.odd(x.d(80)))
	default:
		p.pick(x.list(x.most+2, x.id), x.list(x.most+2, func() int { return x.odd(x.d(6) - 1) }))
	}
	return nil
}

// P21.1 to P21.5: rows of calls without a rule, held against the plain model at each step.
func TestDrawn(t *testing.T) {
	for seed := range uint64(120) {
		x := newDrawing(seed)
		p := newPair(t, int(seed/4%2))
		for i := range 600 {
			x.call(p, i)
			if i%50 == 0 {
				p.look()
			}
		}
		p.look()
	}
}

// P21.5: whatever is called, no record is told twice, what is told was sent, and a path never has more under way than were sent since
// it was opened; in the end each record came, or was told.
func TestToldOnce(t *testing.T) {
	for seed := range uint64(80) {
		x := newDrawing(seed + 1000)
		s := sched.New(int(seed % 2))
		told := map[int]int{}     // by the number that a record carries
		sent := map[int]int{}     // by path, since Open
		carrying := map[int]int{} // how many of these were sent in all
		tell := func(l []api.Range) {
			t.Helper()
			for _, r := range l {
				told[r.From]++
				if told[r.From] > 1 || carrying[r.From] != 1 || r.To != r.From+1 {
					t.Fatalf("seed %d: %v is told %d times, and was sent %d times", seed, r, told[r.From], carrying[r.From])
				}
			}
		}
		came := 0
		for number := range 1500 {
			id := x.d(4)
			before := s.Under(id)
			switch x.d(12) {
			case 0:
				if s.Window(id) == 0 {
					sent[id], x.next[id] = 0, 0
				}
				s.Open(id)
			case 1:
				if x.d(4) == 0 {
					tell(s.Close(id))
				}
			case 2, 3:
				l, _ := s.Got(id, x.near(id), x.ranges(id), x.moment())
				tell(l)
				came += before - s.Under(id) - len(l)
			case 4:
				tell(s.Late(id, x.moment(), x.d(60)))
			default:
				s.Sent(id, x.next[id], x.moment(), one(number))
				x.next[id]++
				if s.Under(id) > before {
					sent[id]++
					carrying[number]++
				}
			}
			if s.Under(id) > sent[id] || s.Under(id) < 0 {
				t.Fatalf("seed %d: %d under way, of %d", seed, s.Under(id), sent[id])
			}
		}
		for id := range 4 {
			tell(s.Close(id))
		}
		if len(told)+came != len(carrying) || len(told) == 0 || came == 0 {
			t.Errorf("seed %d: %d told, %d came, of %d", seed, len(told), came, len(carrying))
		}
	}
}

// P21.5: a record that was told in one way is not told in another; one that came is not told at all.
func TestNotToldAgain(t *testing.T) {
	ways := map[string]func(s *sched.Sched) []api.Range{
		"lost": func(s *sched.Sched) []api.Range { l, _ := s.Got(0, 50, nil, 10); return l },
		"late": func(s *sched.Sched) []api.Range { return s.Late(0, 10, 0) },
		"closed": func(s *sched.Sched) []api.Range {
			l := s.Close(0)
			s.Open(0)
			return l
		},
	}
	for name, first := range ways {
		s := under(0, 1, 2, 3)
		are(t, name, first(s), ones(1, 2, 3))
		for then, second := range ways {
			are(t, name+", then "+then, second(s), nil)
		}
	}
	for name, way := range ways {
		s := under(0, 1, 2, 3)
		gets(t, s, 0, 2, rows(3, 4), 12, nil, 2)
		are(t, name, way(s), one(1))
		are(t, name+", again", way(s), nil)
	}
}

// P21.4, R7: neither of the two sees what is done to the other, nor does one more of the first.
func TestClone(t *testing.T) {
	for _, policy := range policies {
		for _, p := range histories(t, policy) {
			one, two := p.clone(), p.clone()
			one.look()
			for _, call := range []func(p *pair){
				func(p *pair) { p.open(5) },
				func(p *pair) { p.sent(5, 0, 3, rows(1, 2)).sent(5, 2, 4, rows(7, 9)) },
				func(p *pair) { p.sent(2, 200, 3, rows(1, 2)) },
				func(p *pair) { p.pick([]int{5, 2, 0}, []int{7, 7, 9}) },
				func(p *pair) { p.got(2, 120, rows(100, 103), 300) },
				func(p *pair) { p.got(0, 3, rows(0, 1), 300) },
				func(p *pair) { p.late(2, 1000, 700) },
				func(p *pair) { p.pick([]int{2, 0}, nil) },
				func(p *pair) { p.close(0) },
				func(p *pair) { p.open(0).sent(0, 1, 1, nil) },
				func(p *pair) { p.late(5, 5, 1) },
				func(p *pair) { p.close(2) },
			} {
				call(one)
				p.glance()
				two.look()
				three := one.clone()
				call(p)
				one.glance()
				call(three)
				call(three)
				one.look()
				p.look()
			}
			two.look()
		}
	}
}

// R7: two clones that go on by turns, with drawn calls of their own.
func TestClonesGoOn(t *testing.T) {
	for seed := range uint64(30) {
		x := newDrawing(seed + 50)
		p := newPair(t, int(seed%2))
		for i := range 150 {
			x.call(p, i)
		}
		c := p.clone()
		for i := range 150 {
			x.call(p, i)
			c.glance()
			x.call(c, i)
			p.glance()
		}
		p.look()
		c.look()
	}
}

// R8: two that were made apart have nothing in common.
func TestApart(t *testing.T) {
	one, two := newPair(t, api.Turns), newPair(t, api.Turns)
	x, y := newDrawing(3), newDrawing(7)
	for i := range 400 {
		x.call(one, i)
		two.glance()
		y.call(two, i)
		one.glance()
	}
	one.look()
	two.look()
}

// R6: what is answered hangs on the calls alone: the same ones are answered the same way each time.
func TestSameEachTime(t *testing.T) {
	row := func(seed uint64) []api.Range {
		x := newDrawing(seed)
		p := newPair(t, int(seed%2))
		var all []api.Range
		for i := range 300 {
			all = append(all, x.call(p, i)...)
		}
		for _, id := range slices.Sorted(maps.Keys(p.m.open)) {
			all = append(all, p.close(id)...)
		}
		return all
	}
	for seed := range uint64(8) {
		want := row(seed)
		for range 4 {
			are(t, "the same calls", row(seed), want)
		}
	}
}

// P21.1 to P21.4: one that was declared is a new one by Fastest, and so is its clone.
func TestDeclared(t *testing.T) {
	for _, s := range []*sched.Sched{new(sched.Sched), new(sched.Sched).Clone(), sched.New(0).Clone()} {
		p := &pair{t, s, newModel(0)}
		p.look()
		p.close(0)
		p.sent(0, 0, 0, nil)
		p.open(0, 3).sends(0, 0, 1, 2, 3, 4, 5)
		p.pick([]int{3, 0}, []int{4, 3})
		p.got(0, 4, nil, 500)
		p.late(0, 500, 2)
		p.close(3)
		p.look()
	}
}

// busy is a sched with so many paths open, and records under way on each of them.
func busy(policy int) *sched.Sched {
	s := sched.New(policy)
	for id := range 16 {
		s.Open(id)
		for c := range 3 {
			s.Sent(id, c, c, one(c))
		}
	}
	return s
}

func BenchmarkPick(b *testing.B) {
	s := busy(api.Turns)
	live := counted(0, 16)
	for b.Loop() {
		s.Pick(live, nil)
	}
}

func BenchmarkSentAndGot(b *testing.B) {
	s := busy(api.Fastest)
	c := 3
	for b.Loop() {
		s.Sent(5, c, c, rows(c, c+1))
		s.Got(5, c, rows(c-8, c-2), c)
		c++
	}
}

func BenchmarkLate(b *testing.B) {
	s := busy(api.Fastest)
	for b.Loop() {
		s.Late(5, 100, 200)
	}
}

func BenchmarkClone(b *testing.B) {
	s := busy(api.Fastest)
	for b.Loop() {
		s.Clone()
	}
}
