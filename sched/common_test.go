package sched_test

import (
	"maps"
	"math"
	"slices"
	"testing"

	"sheave/api"
	"sheave/sample"
	"sheave/sched"
)

var rows, edges = sample.Rows, sample.Edges

// model are the paths that are open, each with all records that were ever sent on it, of which some are still under way.
type model struct {
	turns bool
	last  int
	open  map[int]*road
}

type road struct {
	window int
	sent   []sending
}

type sending struct {
	counter, moment int
	carries         []api.Range
	under           bool
}

func newModel(policy int) *model { return &model{policy == 1, -1, map[int]*road{}} }

func (m *model) clone() *model {
	c := &model{m.turns, m.last, map[int]*road{}}
	for id, r := range m.open {
		c.open[id] = &road{r.window, slices.Clone(r.sent)}
	}
	return c
}

func within(n int) int {
	if n < 0 {
		return 0
	}
	if n > 1<<40 {
		return 1 << 40
	}
	return n
}

func (m *model) opens(id int) {
	if m.open[id] == nil && id >= 0 {
		m.open[id] = &road{window: 4}
	}
}

// end has a path's records not be under way any more of which a rule holds. It tells how many those are, and what they carried.
func (m *model) end(id int, rule func(x sending) bool) (many int, carried []api.Range) {
	r := m.open[id]
	if r == nil {
		return 0, nil
	}
	for i, x := range r.sent {
		if x.under && rule(x) {
			r.sent[i].under = false
			many++
			carried = append(carried, x.carries...)
		}
	}
	return many, carried
}

func (m *model) close(id int) []api.Range {
	_, carried := m.end(id, func(sending) bool { return true })
	delete(m.open, id)
	return carried
}

func (m *model) send(id, counter, now int, carries []api.Range) {
	r := m.open[id]
	if r == nil || counter < 0 || counter >= 1<<48 {
		return
	}
	for _, x := range r.sent {
		if x.counter >= counter {
			return
		}
	}
	r.sent = append(r.sent, sending{counter, within(now), slices.Clone(carries), true})
}

func (m *model) lose(id int, rule func(x sending) bool) []api.Range {
	many, carried := m.end(id, rule)
	if many > 0 {
		m.open[id].window = max(m.open[id].window/2, 2)
	}
	return carried
}

func (m *model) got(id, top int, l []api.Range, now int) ([]api.Range, int) {
	r := m.open[id]
	if r == nil {
		return nil, -1
	}
	ticks := -1
	for _, x := range r.sent {
		if x.under && x.counter == top {
			ticks = max(within(now)-x.moment, 0)
		}
	}
	many, _ := m.end(id, func(x sending) bool {
		is := x.counter == top
		for _, y := range l {
			is = is || y.From <= x.counter && x.counter < y.To
		}
		return is
	})
	r.window = min(r.window+many, 32)
	return m.lose(id, func(x sending) bool { return top >= 3 && x.counter <= top-3 }), ticks
}

func (m *model) late(id, now, age int) []api.Range {
	return m.lose(id, func(x sending) bool { return x.moment+within(age) <= within(now) })
}

func (m *model) window(id int) int {
	if r := m.open[id]; r != nil {
		return r.window
	}
	return 0
}

// under are a path's records that are under way.
func (m *model) under(id int) []sending {
	var l []sending
	if r := m.open[id]; r != nil {
		for _, x := range r.sent {
			if x.under {
				l = append(l, x)
			}
		}
	}
	return l
}

func (m *model) pick(live, rtt []int) (int, bool) {
	var ids, ticks []int
	for i, id := range live {
		if len(m.under(id)) < m.window(id) {
			ids = append(ids, id)
			ticks = append(ticks, append(slices.Clone(rtt), make([]int, len(live))...)[i])
		}
	}
	if len(ids) == 0 {
		return 0, false
	}
	best := ids[slices.Index(ticks, slices.Min(ticks))]
	if m.turns {
		slices.Sort(ids)
		best = ids[0]
		if i := slices.IndexFunc(ids, func(id int) bool { return id > m.last }); i >= 0 {
			best = ids[i]
		}
	}
	m.last = best
	return best, true
}

// pair are a sched, and what it must be like.
type pair struct {
	t *testing.T
	s *sched.Sched
	m *model
}

func newPair(t *testing.T, policy int) *pair { return &pair{t, sched.New(policy), newModel(policy)} }

func (p *pair) clone() *pair { return &pair{p.t, p.s.Clone(), p.m.clone()} }

// given hands a copy of a list in, with room behind it. That must stay as it was; it is written over then, so that who kept it is
// seen.
func given[T comparable](t *testing.T, l []T, room T, call func(l []T)) {
	t.Helper()
	full := append(slices.Clone(l), room, room, room)
	whole := slices.Clone(full[:cap(full)])
	call(full[:len(l)])
	if !slices.Equal(full[:cap(full)], whole) {
		t.Fatalf("%v, handed in, is %v", whole, full)
	}
	sample.Fill(full, room)
}

var all = api.Range{From: 0, To: math.MaxInt}

// tells holds what was told to what must be. What was told is written over, so that a sched that still leans on it is seen.
func (p *pair) tells(call string, got, want []api.Range) {
	p.t.Helper()
	if !slices.Equal(got, want) {
		p.t.Fatalf("%s: %v, not %v", call, got, want)
	}
	sample.Fill(got, api.Range{From: -7, To: -8})
	p.glance()
}

// open, close, sent, got, late and pick do it of both, and hold the answers against each other, and then what is seen.
func (p *pair) open(ids ...int) *pair {
	p.t.Helper()
	for _, id := range ids {
		p.s.Open(id)
		p.m.opens(id)
		p.glance()
	}
	return p
}

func (p *pair) close(id int) []api.Range {
	p.t.Helper()
	want := p.m.close(id)
	p.tells("Close", p.s.Close(id), want)
	return want
}

func (p *pair) sent(id, counter, now int, carries []api.Range) *pair {
	p.t.Helper()
	given(p.t, carries, all, func(l []api.Range) { p.s.Sent(id, counter, now, l) })
	p.m.send(id, counter, now, carries)
	p.glance()
	return p
}

func (p *pair) got(id, top int, l []api.Range, now int) ([]api.Range, int) {
	p.t.Helper()
	var lost []api.Range
	var ticks int
	given(p.t, l, all, func(l []api.Range) { lost, ticks = p.s.Got(id, top, l, now) })
	want, wantTicks := p.m.got(id, top, l, now)
	if ticks != wantTicks {
		p.t.Fatalf("Got(%d, %d, %v, %d): %d ticks, not %d", id, top, l, now, ticks, wantTicks)
	}
	p.tells("Got", lost, want)
	return want, ticks
}

func (p *pair) late(id, now, age int) []api.Range {
	p.t.Helper()
	want := p.m.late(id, now, age)
	p.tells("Late", p.s.Late(id, now, age), want)
	return want
}

func (p *pair) pick(live, rtt []int) (int, bool) {
	p.t.Helper()
	var id int
	var is bool
	given(p.t, live, 0, func(live []int) {
		given(p.t, rtt, -9, func(rtt []int) { id, is = p.s.Pick(live, rtt) })
	})
	if want, wantIs := p.m.pick(live, rtt); id != want || is != wantIs {
		p.t.Fatalf("Pick(%d, %d): %d, %t, not %d, %t", live, rtt, id, is, want, wantIs)
	}
	p.glance()
	return id, is
}

// numbers are those of the paths that are open, some beside them, and those at which sums may go wrong.
func (p *pair) numbers() []int {
	l := append(edges(), 0, 1, 2, 3, 255, 256)
	return slices.AppendSeq(l, maps.Keys(p.m.open))
}

// glance holds what a sched tells of each number to what it must.
func (p *pair) glance() {
	p.t.Helper()
	for _, id := range p.numbers() {
		if got, want := p.s.Window(id), p.m.window(id); got != want {
			p.t.Fatalf("Window(%d): %d, not %d", id, got, want)
		}
		if got, want := p.s.Under(id), len(p.m.under(id)); got != want {
			p.t.Fatalf("Under(%d): %d, not %d", id, got, want)
		}
	}
}

// look holds all that can be seen of a sched to what it must be, by clones: which counters are under way, since when, and with what;
// which may still be sent; and whose turn it is.
func (p *pair) look() {
	p.t.Helper()
	p.glance()
	ids := slices.Sorted(maps.Keys(p.m.open))
	for _, id := range ids {
		p.clone().close(id)
		c := p.clone()
		for _, x := range p.m.under(id) {
			c.late(id, x.moment-1, 0)
			c.late(id, x.moment, 0)
		}
		c = p.clone()
		for _, x := range p.m.under(id) {
			c.got(id, x.counter, nil, api.MaxClock)
		}
		c = p.clone()
		if many := len(p.m.open[id].sent); many > 0 {
			last := p.m.open[id].sent[many-1].counter
			c.sent(id, last, 0, nil)
			c.sent(id, last+1, 0, nil)
		} else {
			c.sent(id, 0, 0, nil)
		}
	}
	c := p.clone()
	for range len(ids) + 1 {
		c.pick(ids, []int{3, 1, 2})
	}
}

// carry is what the record with a counter carries: none, one or two ranges, an empty one among them.
func carry(counter int) []api.Range {
	switch counter % 4 {
	case 0:
		return rows(10*counter, 10*counter+7)
	case 1:
		return rows(10*counter, 10*counter+2, 10*counter+5, 10*counter+6)
	case 2:
		return nil
	}
	return rows(10*counter+4, 10*counter+4, 10*counter+9, 10*counter+8)
}

// sends sends the records with these counters, each at a moment of its own.
func (p *pair) sends(id int, counters ...int) *pair {
	p.t.Helper()
	for _, c := range counters {
		p.sent(id, c, 100+c, carry(c))
	}
	return p
}

// counted are the numbers from one on, below another.
func counted(from, to int) []int {
	var l []int
	for n := from; n < to; n++ {
		l = append(l, n)
	}
	return l
}

// wide is a sched on whose path id nothing is under way, with a window of so many: it grew by what came, and was halved by what was
// lost.
func wide(t *testing.T, policy, id, window int) *pair {
	t.Helper()
	p := newPair(t, policy).open(id)
	next := 0
	for p.m.window(id) > window {
		p.sent(id, next, 0, nil)
		p.late(id, 0, 0)
		next++
	}
	for p.m.window(id) < window {
		p.sent(id, next, 0, nil)
		p.got(id, next, nil, 0)
		next++
	}
	if p.s.Window(id) != window || p.s.Under(id) != 0 {
		t.Fatalf("Window %d, Under %d", p.s.Window(id), p.s.Under(id))
	}
	return p
}

// histories are scheds of all kinds, by what they are.
func histories(t *testing.T, policy int) map[string]*pair {
	t.Helper()
	h := map[string]*pair{
		"new":           newPair(t, policy),
		"declared":      {t, new(sched.Sched), newModel(0)},
		"one open":      newPair(t, policy).open(0),
		"under way":     newPair(t, policy).open(0, 2).sends(0, 0, 1, 2, 3, 4, 5, 9).sends(2, 7),
		"closed":        newPair(t, policy).open(0, 3).sends(0, 4, 5),
		"open again":    newPair(t, policy).open(0, 2).sends(0, 4, 5),
		"came and lost": newPair(t, policy).open(1, 2).sends(1, counted(3, 20)...),
		"at the end":    newPair(t, policy).open(0).sends(0, api.MaxCounter-2, api.MaxCounter),
		"wide":          wide(t, policy, 2, 32).sends(2, counted(100, 140)...),
		"narrow":        wide(t, policy, 2, 2).sends(2, 100, 101, 105),
		"picked":        newPair(t, policy).open(0, 1, 2, 255, 256, math.MaxInt),
		"last picked":   newPair(t, policy).open(0, 2, math.MaxInt),
	}
	h["closed"].close(0)
	h["open again"].close(0)
	h["open again"].open(0).sends(0, 1, 2)
	h["came and lost"].got(1, 10, rows(4, 6, 8, 9), 130)
	h["came and lost"].late(1, 130, 19)
	h["picked"].pick([]int{0, 2}, nil)
	h["picked"].pick([]int{0, 2}, nil)
	h["last picked"].pick([]int{math.MaxInt}, nil)
	return h
}
