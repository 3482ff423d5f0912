package ranges_test

import (
	"math"
	"slices"
	"testing"

	"sheave/api"
	"sheave/ranges"
	"sheave/sample"
)

const (
	last = 1<<62 - 1 // the greatest number that may be among them
	end  = last + 1
)

// model are the numbers from 0 to last, cut into cells at some edges: each cell is there whole, or not at all, and each from and to
// is an edge, or no number that may be. Where the edges are one apart, the cells are a plain set of numbers.
type model struct {
	edges []int // rising, from 0 to end
	in    []bool
}

func newModel(edges []int) *model { return &model{edges: edges, in: make([]bool, len(edges)-1)} }

func (m *model) clone() *model { return &model{edges: m.edges, in: slices.Clone(m.in)} }

func (m *model) cell(i int) api.Range { return api.Range{From: m.edges[i], To: m.edges[i+1]} }

// cells are the places of those from from on, below to.
func (m *model) cells(from, to int) []int {
	var l []int
	for i := range m.in {
		if x := m.cell(i); x.From >= from && x.To <= to {
			l = append(l, i)
		}
	}
	return l
}

// set has cells be there, or not, and tells how many numbers that makes another thing of.
func (m *model) set(from, to int, is bool) int {
	many := 0
	for _, i := range m.cells(from, to) {
		if m.in[i] != is {
			m.in[i] = is
			many += m.cell(i).To - m.cell(i).From
		}
	}
	return many
}

func (m *model) has(n int) bool {
	for i, is := range m.in {
		if x := m.cell(i); is && n >= x.From && n < x.To {
			return true
		}
	}
	return false
}

func (m *model) next(n int) int {
	n = max(n, 0)
	for i, is := range m.in {
		if x := m.cell(i); is && n >= x.From && n < x.To {
			n = x.To
		}
	}
	return n
}

// rowsOf are the cells of which is holds, those that follow one another as one row.
func (m *model) rowsOf(cells []int, is bool) []api.Range {
	var l []api.Range
	for _, i := range cells {
		x := m.cell(i)
		switch {
		case m.in[i] != is:
		case len(l) > 0 && l[len(l)-1].To == x.From:
			l[len(l)-1].To = x.To
		default:
			l = append(l, x)
		}
	}
	return l
}

func (m *model) list() []api.Range { return m.rowsOf(m.cells(0, end), true) }

func (m *model) gap(from, to int) (api.Range, bool) {
	l := m.rowsOf(m.cells(from, to), false)
	if len(l) == 0 {
		return api.Range{}, false
	}
	return l[0], true
}

func (m *model) total() int {
	many := 0
	for _, x := range m.list() {
		many += x.To - x.From
	}
	return many
}

// pair are ranges, and the cells that they must be like.
type pair struct {
	t *testing.T
	r *ranges.Ranges
	m *model
}

func newPair(t *testing.T, edges []int) *pair {
	return &pair{t: t, r: ranges.New(), m: newModel(edges)}
}

func (p *pair) clone() *pair { return &pair{t: p.t, r: p.r.Clone(), m: p.m.clone()} }

// add and cut do it of both, and hold the answers, and what is there then, against each other.
func (p *pair) add(from, to int) int {
	p.t.Helper()
	return p.change((*ranges.Ranges).Add, true, from, to)
}

func (p *pair) cut(from, to int) int {
	p.t.Helper()
	return p.change((*ranges.Ranges).Cut, false, from, to)
}

func (p *pair) change(call func(r *ranges.Ranges, from, to int) int, is bool, from, to int) int {
	p.t.Helper()
	before := p.r.List()
	got, want := call(p.r, from, to), p.m.set(from, to, is)
	if got != want {
		p.t.Fatalf("%v: Add or Cut (%t) of %d, %d: %d, not %d", before, is, from, to, got, want)
	}
	p.glance()
	return got
}

// glance holds the numbers themselves against each other.
func (p *pair) glance() {
	p.t.Helper()
	if got, want := p.r.List(), p.m.list(); !slices.Equal(got, want) {
		p.t.Fatalf("List: %v, not %v", got, want)
	}
	if got, want := p.r.Total(), p.m.total(); got != want {
		p.t.Fatalf("%v: Total: %d, not %d", p.m.list(), got, want)
	}
}

// look holds all that ranges tell against the cells.
func (p *pair) look() {
	p.t.Helper()
	p.glance()
	for _, n := range p.numbers() {
		if got, want := p.r.Has(n), p.m.has(n); got != want {
			p.t.Fatalf("%v: Has(%d): %t", p.m.list(), n, got)
		}
		if got, want := p.r.Next(n), p.m.next(n); got != want {
			p.t.Fatalf("%v: Next(%d): %d, not %d", p.m.list(), n, got, want)
		}
	}
	ends := p.ends()
	for _, from := range ends {
		for _, to := range ends {
			want, missing := p.m.gap(from, to)
			if got, is := p.r.Gap(from, to); got != want || is != missing {
				p.t.Fatalf("%v: Gap(%d, %d): %v, %t, not %v, %t", p.m.list(), from, to, got, is, want, missing)
			}
			if got := p.r.Covers(from, to); got == missing {
				p.t.Fatalf("%v: Covers(%d, %d): %t", p.m.list(), from, to, got)
			}
		}
	}
}

// outside are numbers that never are among them.
func outside() []int {
	return []int{math.MinInt, math.MinInt + 1, -end, -1, end + 1, math.MaxInt - 1, math.MaxInt}
}

// ends are all numbers that a call may be tried with as from and to.
func (p *pair) ends() []int { return slices.Concat(p.m.edges, outside()) }

// numbers are those, and what lies ahead of an edge and behind it.
func (p *pair) numbers() []int {
	l := p.ends()
	for _, n := range p.m.edges {
		l = append(l, n-1, n+1)
	}
	return l
}

// counted are edges that are one apart from one number on, up to another; all other numbers are cells of their own.
func counted(from, to int) []int {
	l := []int{0, end}
	for n := from; n <= to; n++ {
		l = append(l, n)
	}
	slices.Sort(l)
	return slices.Compact(l)
}

// allEdges are those that the cells are tried with: small numbers, the greatest ones, and some of all sizes.
func allEdges() map[string][]int {
	return map[string][]int{
		"low":    counted(0, 8),
		"middle": counted(1<<40-3, 1<<40+3),
		"high":   counted(last-7, end),
		"wide":   {0, 1, 1 << 10, 1<<31 - 1, 1 << 32, 1 << 61, last - 1, last, end},
	}
}

var rows = sample.Rows

// of are the numbers of some rows.
func of(l []api.Range) *ranges.Ranges {
	r := ranges.New()
	for _, x := range l {
		r.Add(x.From, x.To)
	}
	return r
}

func size(l []api.Range) int {
	many := 0
	for _, x := range l {
		many += x.To - x.From
	}
	return many
}

// are holds ranges to the rows that they must be.
func are(t *testing.T, r *ranges.Ranges, want []api.Range) {
	t.Helper()
	if got := r.List(); !slices.Equal(got, want) {
		t.Errorf("List: %v, not %v", got, want)
	}
	if got := r.Total(); got != size(want) {
		t.Errorf("%v: Total: %d", want, got)
	}
}

// histories are ranges of all kinds, by what they are.
func histories(t *testing.T) map[string]*pair {
	t.Helper()
	l := map[string]*pair{}
	for name, edges := range allEdges() {
		few := newPair(t, edges)
		few.add(edges[1], edges[2])
		comb := newPair(t, edges)
		for i := 0; i+1 < len(edges); i += 2 {
			comb.add(edges[i], edges[i+1])
		}
		all := newPair(t, edges)
		all.add(0, end)
		holes := all.clone()
		holes.cut(edges[2], edges[3])
		holes.cut(edges[5], edges[7])
		emptied := all.clone()
		emptied.cut(0, end)
		ends := newPair(t, edges)
		ends.add(edges[len(edges)-2], end)
		ends.add(0, edges[1])
		for kind, p := range map[string]*pair{"new": newPair(t, edges), "few": few, "comb": comb, "all": all, "holes": holes,
			"emptied": emptied, "ends": ends} {
			l[name+", "+kind] = p
		}
	}
	return l
}
