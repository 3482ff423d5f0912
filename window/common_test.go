package window_test

import (
	"math"
	"slices"
	"testing"

	"sheave/api"
	"sheave/window"
)

const (
	sight = 1024      // how far back a window sees
	last  = 1<<48 - 1 // the greatest number that there is
)

// model is a plain set of numbers, which forgets none, and what the chapter's words say of it.
type model struct {
	top int
	set map[int]bool
}

func newModel() *model { return &model{top: -1, set: map[int]bool{}} }

func (m *model) check(n int) api.Errno {
	if n < 0 || n > last {
		return api.ErrArg
	}
	if n <= m.top-sight || m.set[n] {
		return api.ErrOld
	}
	return api.OK
}

func (m *model) mark(n int) api.Errno {
	e := m.check(n)
	if e == api.OK {
		m.set[n] = true
		m.top = max(m.top, n)
	}
	return e
}

func (m *model) count() int {
	sum := 0
	for n := m.top - sight + 1; n <= m.top; n++ {
		if m.set[n] {
			sum++
		}
	}
	return sum
}

// all are all ranges below the top, rising.
func (m *model) all() []api.Range {
	var l []api.Range
	for n := m.top - sight + 1; n < m.top; n++ {
		if !m.set[n] {
			continue
		}
		to := n + 1
		for to < m.top && m.set[to] {
			to++
		}
		l = append(l, api.Range{From: n, To: to})
		n = to
	}
	return l
}

// lastOf are the last ones of l, most at most.
func lastOf(l []api.Range, most int) []api.Range {
	if most < 1 {
		return nil
	}
	return l[max(len(l)-most, 0):]
}

func (m *model) clone() *model {
	c := &model{top: m.top, set: map[int]bool{}}
	for n := range m.set {
		c.set[n] = true
	}
	return c
}

// pair is a window, and the set that it must be like.
type pair struct {
	t *testing.T
	w *window.Window
	m *model
}

func newPair(t *testing.T) *pair { return &pair{t: t, w: window.New(), m: newModel()} }

// pairOf is one in which numbers were marked, in the order that they are told.
func pairOf(t *testing.T, numbers ...int) *pair {
	t.Helper()
	p := newPair(t)
	p.marks(numbers...)
	return p
}

func (p *pair) clone() *pair { return &pair{t: p.t, w: p.w.Clone(), m: p.m.clone()} }

// mark does it of both, and looks at what is behind.
func (p *pair) mark(n int) {
	p.t.Helper()
	p.just(n)
	p.look()
}

func (p *pair) marks(numbers ...int) {
	p.t.Helper()
	for _, n := range numbers {
		p.mark(n)
	}
}

// just marks n in both without a look: for long rows of marks.
func (p *pair) just(n int) {
	p.t.Helper()
	if got, want := p.w.Mark(n), p.m.mark(n); got != want {
		p.t.Fatalf("Mark(%d), top %d: %d, not %d", n, p.m.top, got, want)
	}
}

// run marks all of a range.
func (p *pair) run(from, to int) {
	p.t.Helper()
	for n := from; n < to; n++ {
		p.just(n)
	}
	p.look()
}

// look holds all that a window tells against the set: what it is, and each number that it may see, or no longer.
func (p *pair) look() {
	p.t.Helper()
	p.glance()
	for n := p.m.top - 2*sight - 3; n <= p.m.top+3; n++ {
		p.check(n)
	}
}

// glance holds the few things against each other that hang on all marks.
func (p *pair) glance() {
	p.t.Helper()
	if got := p.w.Top(); got != p.m.top {
		p.t.Fatalf("Top: %d, not %d", got, p.m.top)
	}
	if got, want := p.w.Count(), p.m.count(); got != want {
		p.t.Fatalf("Count, top %d: %d, not %d", p.m.top, got, want)
	}
	all := p.m.all()
	for _, most := range []int{math.MinInt, -1, 0, 1, 2, 8, len(all) - 1, len(all), len(all) + 1, math.MaxInt} {
		if got, want := p.w.Below(most), lastOf(all, most); !slices.Equal(got, want) {
			p.t.Fatalf("Below(%d), top %d: %v, not %v", most, p.m.top, got, want)
		}
	}
	for _, n := range []int{math.MinInt, math.MinInt + 1, -1, 0, 1, last - 1, last, last + 1, math.MaxInt} {
		p.check(n)
	}
}

func (p *pair) check(n int) {
	p.t.Helper()
	if got, want := p.w.Check(n), p.m.check(n); got != want {
		p.t.Fatalf("Check(%d), top %d: %d, not %d", n, p.m.top, got, want)
	}
}

// histories are windows of all kinds, by what they are.
func histories(t *testing.T) map[string]*pair {
	t.Helper()
	full := newPair(t)
	full.run(5000, 5000+2*sight)
	comb := newPair(t)
	for n := 0; n < 2*sight; n += 2 {
		comb.just(n)
	}
	down := newPair(t)
	down.run(2999, 3000)
	for n := 2998; n > 3000-sight; n -= 3 {
		down.just(n)
	}
	end := pairOf(t, last, last-1, last-3, last-1023)
	return map[string]*pair{
		"new":     newPair(t),
		"0":       pairOf(t, 0),
		"1":       pairOf(t, 1),
		"5, 3":    pairOf(t, 5, 3),
		"early":   pairOf(t, 100, 99, 50, 0),
		"1023, 0": pairOf(t, 1023, 0),
		"1024":    pairOf(t, 1024, 1, 2, 3, 1023),
		"two far": pairOf(t, 70000, 70000-1023),
		"full":    full,
		"comb":    comb,
		"down":    down,
		"end":     end,
	}
}
