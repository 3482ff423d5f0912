package window_test

import (
	"slices"
	"testing"

	"sheave/api"
	"sheave/sample"
	"sheave/window"
)

// P14.4: neither of the two sees what is done to the other, nor does one more of the first.
func TestClone(t *testing.T) {
	for _, p := range histories(t) {
		one, two := p.clone(), p.clone()
		p.look()
		one.look()
		for _, n := range []int{max(p.m.top-1, 0), max(p.m.top-700, 0), min(p.m.top+1, last), min(p.m.top+100, last)} {
			one.mark(n)
		}
		p.look()
		two.look()
		for _, n := range []int{max(p.m.top-2, 0), max(p.m.top-64, 0), min(p.m.top+2, last), min(p.m.top+5000, last)} {
			p.mark(n)
		}
		one.look()
		two.look()
		three := one.clone()
		three.mark(last)
		one.look()
		three.look()
	}
}

// P14.4: a clone of a clone, and of one that was declared, is a window like the others.
func TestCloneOfNone(t *testing.T) {
	var w window.Window
	c := w.Clone().Clone()
	if c.Mark(9) != api.OK || c.Top() != 9 || w.Top() != -1 || w.Check(9) != api.OK || w.Count() != 0 {
		t.Errorf("tops %d and %d", c.Top(), w.Top())
	}
}

// Two windows that were made apart have nothing in common.
func TestApart(t *testing.T) {
	one, two := newPair(t), newPair(t)
	for i := range 300 {
		one.just(3 * i)
		two.just(5*i + 1)
		one.glance()
		two.glance()
	}
	one.look()
	two.look()
}

// P14.5: whatever row of numbers comes, none is marked twice: many rows, drawn in ways of their own, held against a plain set.
func TestNoneTwice(t *testing.T) {
	ways := map[string]func(top int, d func(int) int) int{
		"near":     func(top int, d func(int) int) int { return top - 8 + d(20) },
		"in sight": func(top int, d func(int) int) int { return top - sight - 2 + d(sight+5) },
		"words":    func(top int, d func(int) int) int { return top + 64*(d(20)-17) + d(3) - 1 },
		"jumps": func(top int, d func(int) int) int {
			if d(40) == 0 {
				return top + d(3*sight)
			}
			return top - d(sight+2)
		},
		"far": func(top int, d func(int) int) int {
			if d(300) == 0 {
				return top + d(last/4)
			}
			return top - d(80)
		},
		"anywhere": func(top int, d func(int) int) int { return d(4*sight) - 10 },
		"end":      func(top int, d func(int) int) int { return last + 3 - d(2*sight) },
	}
	for name, way := range ways {
		for seed := range uint64(6) {
			d := sample.Draw(seed<<8 + uint64(len(name)))
			p := newPair(t)
			taken := map[int]bool{}
			for i := range 2500 {
				n := way(p.m.top, d)
				p.check(n)
				if p.w.Clone().Mark(n) == api.OK {
					if taken[n] {
						t.Fatalf("%s: %d was marked twice", name, n)
					}
					taken[n] = true
				}
				p.just(n)
				if i%16 == 0 {
					p.glance()
				}
			}
			p.look()
		}
	}
}

// P14.5: all numbers of a stretch, each many times, in an order without a rule: each is marked once at most, and once exactly if
// all are in sight throughout.
func TestEachOnce(t *testing.T) {
	for _, long := range []int{1, 2, 64, 65, 1023, 1024, 1500} {
		for _, from := range []int{0, 1, 77777, last - long + 1} {
			d := sample.Draw(uint64(long))
			w := window.New()
			times := make([]int, long)
			for range 4 {
				order := make([]int, long)
				for i := range order {
					order[i] = i
				}
				for _, n := range sample.Shuffled(order, d) {
					if w.Mark(from+n) == api.OK {
						times[n]++
					}
				}
			}
			if slices.Max(times) > 1 || long <= sight && slices.Min(times) < 1 {
				t.Errorf("%d long from %d: %v", long, from, times)
			}
		}
	}
}

// What follows: Count is one more than all ranges below the top hold, if anything was marked; the ranges rise, none is empty,
// none touches the next, and Check refuses just what they hold, the top, and what is out of sight.
func TestRangesAndMarks(t *testing.T) {
	for name, p := range histories(t) {
		if p.w.Top() < 0 {
			continue
		}
		l := p.w.Below(sight)
		sum, held := 1, map[int]bool{p.w.Top(): true}
		for i, r := range l {
			if r.From >= r.To || i > 0 && r.From <= l[i-1].To || r.To > p.w.Top() || r.From <= p.w.Top()-sight {
				t.Errorf("%s: %v", name, l)
			}
			sum += r.To - r.From
			for n := r.From; n < r.To; n++ {
				held[n] = true
			}
		}
		if sum != p.w.Count() {
			t.Errorf("%s: count %d, ranges of %d", name, p.w.Count(), sum-1)
		}
		for n := max(p.w.Top()-sight+1, 0); n <= p.w.Top(); n++ {
			if refused := p.w.Check(n) == api.ErrOld; refused != held[n] {
				t.Errorf("%s: Check(%d) refuses: %t", name, n, refused)
			}
		}
	}
}

func BenchmarkMarkInOrder(b *testing.B) {
	w := window.New()
	n := 0
	for b.Loop() {
		w.Mark(n)
		n++
	}
}

func BenchmarkBelow(b *testing.B) {
	w := window.New()
	for n := range 3 * sight {
		w.Mark(n)
	}
	for b.Loop() {
		w.Below(api.MaxRanges)
	}
}
