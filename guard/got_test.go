package guard_test

import (
	"slices"
	"testing"

	"sheave/api"
	"sheave/guard"
	"sheave/sample"
)

// got holds Got to what it must answer.
func (p *pair) got(path, top int, below ...api.Range) {
	p.t.Helper()
	if got, l := p.g.Got(path); got != top || !slices.Equal(l, below) {
		p.t.Errorf("Got(%d): %d, %v, not %d, %v", path, got, l, top, below)
	}
	p.look()
}

// P16.4: Got at each moment of a path: nothing came, one record, more of them in any order, the next epoch, records of the one ahead.
func TestGot(t *testing.T) {
	p := newPair(t, 0, drawn(1), drawn(2))
	p.got(3, -1)
	p.opens(api.OK, p.others(3, 0, 5)...).got(3, 5)
	p.opens(api.ErrOld, p.others(3, 0, 5)...).got(3, 5)
	p.opens(api.OK, p.others(3, 0, 0)...).got(3, 5, api.Range{From: 0, To: 1})
	p.opens(api.OK, p.others(3, 0, 3, 4)...).got(3, 5, api.Range{From: 0, To: 1}, api.Range{From: 3, To: 5})
	p.opens(api.ErrForged, sealed(drawn(3), 1, 3, 0, 9, nil), sealed(drawn(3), 1, 3, 1, 9, nil)).got(3, 5, api.Range{From: 0, To: 1}, api.Range{From: 3, To: 5})
	p.got(4, -1)
	p.opens(api.OK, p.others(4, 0, 0)...).got(4, 0)
	p.opens(api.OK, p.others(3, 0, 1, 2, 7)...).got(3, 7, api.Range{From: 0, To: 6})
	p.opens(api.OK, p.others(4, 1, 2)...).got(4, 2)
	p.got(3, -1)
	p.opens(api.OK, p.others(3, 0, 6, 9)...).got(3, -1)
	p.opens(api.OK, p.others(4, 0, 1)...).got(4, 2)
	p.opens(api.OK, p.others(3, 1, 1, 0)...).got(3, 1, api.Range{From: 0, To: 1})
	p.opens(api.OK, p.others(3, 2, last)...).got(3, last)
	p.got(4, -1)
	p.opens(api.OK, p.others(3, 2, last-2, last-1)...).got(3, last, api.Range{From: last - 2, To: last})
	p.opens(api.OK, p.others(5, 3, 0)...).got(3, -1)
}

// P16.4: of more than 8 ranges the last 8 are told, rising, as far back as is seen.
func TestGotRanges(t *testing.T) {
	for many := range 14 {
		p := newPair(t, 1, drawn(4), drawn(5))
		var want []api.Range
		for i := range many {
			p.opens(api.OK, p.others(255, 0, 10*i, 10*i+1)...)
			want = append(want, api.Range{From: 10 * i, To: 10*i + 2})
		}
		p.opens(api.OK, p.others(255, 0, 10*many)...)
		p.got(255, 10*many, want[max(many-8, 0):]...)
	}
	p := newPair(t, 1, drawn(4), drawn(5))
	p.opens(api.OK, p.others(0, 0, 0, 976, 977, 2000)...).got(0, 2000, api.Range{From: 977, To: 978})
	p.opens(api.OK, p.others(0, 0, 3000)...).got(0, 3000, api.Range{From: 2000, To: 2001})
	p.opens(api.OK, p.others(0, 0, 3024)...).got(0, 3024, api.Range{From: 3000, To: 3001})
}

// P16.4: of what is no path nothing came, nor on paths that have a record's path in one byte alone.
func TestGotOfNoPath(t *testing.T) {
	for _, p := range histories(t) {
		for path := range 256 {
			p.open(p.other(path, p.m.in.epoch, 900, ""))
		}
		for _, path := range noPaths {
			if top, l := p.g.Got(path); top != -1 || len(l) != 0 {
				t.Errorf("Got(%d): %d, %v", path, top, l)
			}
		}
		p.look()
	}
}

// R7: what is answered is the caller's own, and asking changes nothing.
func TestAskingChangesNothing(t *testing.T) {
	for _, p := range histories(t) {
		for range 3 {
			for _, path := range append([]int{0, 3, 255}, noPaths...) {
				p.g.Counter(path)
				_, l := p.g.Got(path)
				l = l[:cap(l)]
				for i := range l {
					l[i] = api.Range{From: -5, To: 1 << 40}
				}
			}
			p.g.Epochs()
			p.g.Clone()
			p.look()
		}
		p.future()
	}
}

// busy does a bit of everything to a guard, other things for each seed.
func (p *pair) busy(seed int) {
	p.t.Helper()
	d := sample.Draw(uint64(seed))
	for range 30 {
		path := []int{0, 3, 255}[d(3)]
		switch d(6) {
		case 0:
			p.advance()
		case 1:
			p.skip(path, p.m.counter(path)+d(9))
		case 2, 3:
			p.seal(path, text(d(30)))
		default:
			p.open(p.other(path, min(p.m.in.epoch+d(20)/19, end), d(12), "busy"))
		}
	}
	p.open(p.other(1, min(p.m.in.epoch+1, end), 3, "behind"))
}

// P16.4: neither of the two sees what is done to the other, nor does one more of the first.
func TestClone(t *testing.T) {
	for _, p := range histories(t) {
		one, two := p.clone(), p.clone()
		all := []*pair{p, one, two}
		for i, busy := range []*pair{one, p, one, two, p} {
			busy.busy(i)
			for _, x := range all {
				x.look()
				x.future()
			}
			if i == 2 {
				three := one.clone()
				three.busy(9)
				all = append(all, three)
			}
		}
	}
}

// P16.4: the same, one thing at a time: what a clone does is new to the first one, and the other way round.
func TestCloneStepByStep(t *testing.T) {
	for turn := range 2 {
		p := inFive(t)
		p.seal(3, nil)
		q := p.clone()
		if turn == 1 {
			p, q = q, p
		}
		for _, step := range []func(){
			func() { p.seal(3, nil) },
			func() { p.seal(9, nil) },
			func() { p.skip(3, 90) },
			func() { p.opens(api.OK, p.others(3, 5, 2001, 1999)...) },
			func() { p.opens(api.OK, p.others(3, 4, 2001, 1999)...) },
			func() { p.opens(api.OK, p.others(9, 5, 0)...) },
			func() { p.advance() },
			func() { p.opens(api.OK, p.others(3, 6, 0)...) },
			func() { p.opens(api.OK, p.others(3, 7, 0)...) },
			func() { p.opens(api.OK, p.others(3, 8, 0)...) },
		} {
			step()
			q.look()
			q.tries(api.OK, q.others(3, 5, 2001, 1999)...)
			q.tries(api.OK, q.others(3, 4, 2001, 1999)...)
			q.tries(api.ErrOld, q.others(3, 5, 2, 2000)...)
			q.tries(api.ErrOld, q.others(3, 4, 2, 2000)...)
			q.tries(api.OK, q.others(9, 6, 0)...)
			p.look()
		}
		q.seal(3, text(3))
		q.opens(api.OK, q.others(3, 4, 2001)...).opens(api.OK, q.others(3, 6, 0)...)
		p.look()
		q.look()
	}
}

// A clone is a thing of its own, not the same one by another name, with the same role.
func TestCloneIsAnother(t *testing.T) {
	for role := range 2 {
		g := guard.New(role, drawn(6), drawn(7))
		c := g.Clone()
		if g == c {
			t.Error("the same thing")
		}
		c.Seal(3, nil)
		c.Advance()
		if out, _ := g.Epochs(); out != 0 || g.Counter(3) != 0 {
			t.Errorf("epoch %d, counter %d", out, g.Counter(3))
		}
		if b, _ := c.Seal(3, nil); b[1] != byte(role) {
			t.Errorf("the clone of %d seals as %d", role, b[1])
		}
	}
}

// R8: two that were made apart have nothing in common, with the same roots or with others.
func TestApart(t *testing.T) {
	one, same, other := newPair(t, 0, drawn(8), drawn(9)), newPair(t, 0, drawn(8), drawn(9)), newPair(t, 1, drawn(9), drawn(8))
	for i := range 8 {
		one.busy(i)
		if i%2 == 0 {
			other.busy(100 + i)
		}
		if i == 5 {
			same.busy(200)
		}
		for _, p := range []*pair{one, same, other} {
			p.look()
			p.future()
		}
	}
}

// R6: the same calls answer the same each time.
func TestSameEachTime(t *testing.T) {
	for range 3 {
		one, two := newPair(t, 0, drawn(10), drawn(11)), newPair(t, 0, drawn(10), drawn(11))
		for i := range 5 {
			one.busy(i)
			two.busy(i)
			two.m = one.m.clone()
			two.look()
			two.future()
		}
	}
}
