package ranges_test

import (
	"slices"
	"testing"

	"sheave/api"
	"sheave/ranges"
	"sheave/sample"
)

// P17.4: the same numbers, however they are cut, in each order that there is: all that is told is the same.
func TestEachOrder(t *testing.T) {
	edges := counted(0, 30)
	for _, ways := range [][][]api.Range{
		{rows(2, 8, 9, 10), rows(2, 5, 4, 8, 9, 10), rows(2, 3, 3, 4, 4, 5, 5, 8, 9, 10), rows(7, 8, 2, 7, 9, 10, 2, 2), rows(2, 8, 2, 8, 3, 4, 9, 10, 5, 3)},
		{rows(0, 20), rows(0, 10, 10, 20), rows(-5, 12, 8, 20), rows(0, 5, 15, 20, 5, 15), rows(0, 1, 1, 19, 19, 20, 4, 6), rows(0, 7, 3, 14, 11, 18, 17, 20, -9, 1)},
		{rows(1, 2, 3, 4, 5, 6, 7, 8), rows(7, 8, 1, 2, 5, 6, 3, 4), rows(1, 2, 3, 4, 5, 6, 7, 8, 5, 6)},
		{rows(25, end), rows(25, 27, 26, end), rows(25, 26, 26, 28, 28, end+1), rows(28, end, 25, 29)},
	} {
		want := newPair(t, edges)
		for _, x := range ways[0] {
			want.add(x.From, x.To)
		}
		for _, way := range ways {
			for _, l := range sample.Orders(way) {
				p := &pair{t: t, r: ranges.New(), m: want.m}
				many := 0
				for _, x := range l {
					many += p.r.Add(x.From, x.To)
				}
				if many != want.r.Total() {
					t.Errorf("%v: %d numbers were added", l, many)
				}
				p.glance()
			}
			(&pair{t: t, r: of(way), m: want.m}).look()
		}
	}
}

// P17.4: sets of numbers without a rule, cut anew each time into rows that overlap, in an order of their own: always the same, and
// what a plain set of numbers tells.
func TestDrawnOrders(t *testing.T) {
	for seed := range uint64(40) {
		d := sample.Draw(seed)
		from := []int{0, 1 << 33, end - 24}[seed%3]
		want := newPair(t, counted(from, from+24))
		for range 1 + d(6) {
			at := from + d(24)
			want.add(at, min(at+1+d(8), from+24))
		}
		want.look()
		for range 20 {
			l := sample.Shuffled(cutAnew(want.m.list(), d), d)
			p := &pair{t: t, r: ranges.New(), m: want.m.clone()}
			many := 0
			for _, x := range l {
				many += p.r.Add(x.From, x.To)
			}
			if many != want.r.Total() {
				t.Errorf("seed %d, %v: %d numbers were added", seed, l, many)
			}
			p.look()
		}
	}
}

// cutAnew are rows with the same numbers as those: some of their pieces, and pieces of one number wherever one is missing.
func cutAnew(l []api.Range, d func(int) int) []api.Range {
	var cut []api.Range
	for _, x := range l {
		there := map[int]bool{}
		for range d(6) {
			from := x.From + d(x.To-x.From)
			to := from + 1 + d(x.To-from)
			cut = append(cut, api.Range{From: from, To: to})
			for n := from; n < to; n++ {
				there[n] = true
			}
		}
		for n := x.From; n < x.To; n++ {
			if !there[n] {
				cut = append(cut, api.Range{From: n, To: n + 1})
			}
		}
	}
	return cut
}

// P17.4: each second number of many, in an order without a rule, and then the others: rows come, and grow together.
func TestManyInAnyOrder(t *testing.T) {
	const many = 4000
	for _, from := range []int{0, 5, end - many} {
		d := sample.Draw(uint64(many))
		r := ranges.New()
		var even, odd []int
		var combs []api.Range
		for i := 0; i < many; i += 2 {
			even, odd = append(even, from+i), append(odd, from+i+1)
			combs = append(combs, api.Range{From: from + i, To: from + i + 1})
		}
		for i, n := range sample.Shuffled(even, d) {
			if r.Add(n, n+1) != 1 || r.Total() != i+1 {
				t.Fatalf("%d: total %d", n, r.Total())
			}
		}
		are(t, r, combs)
		for _, n := range sample.Shuffled(odd, d) {
			if r.Has(n) || !r.Has(n-1) || r.Add(n, n+1) != 1 || !r.Covers(n-1, n+1) {
				t.Fatalf("%d", n)
			}
		}
		are(t, r, rows(from, from+many))
		for _, n := range sample.Shuffled(even, d) {
			if r.Cut(n, n+1) != 1 || r.Has(n) || !r.Has(n+1) || r.Next(n) != n {
				t.Fatalf("%d", n)
			}
		}
		if got := len(r.List()); got != many/2 || r.Total() != many/2 {
			t.Errorf("%d rows, %d numbers", got, r.Total())
		}
	}
}

// P17.1 to P17.4: rows without a rule are added and taken away, held against the cells at each step.
func TestDrawn(t *testing.T) {
	worlds := allEdges()
	worlds["long"] = counted(0, 60)
	worlds["long, at the end"] = counted(end-60, end)
	for name, edges := range worlds {
		for seed := range uint64(6) {
			d := sample.Draw(seed<<8 + uint64(len(name)))
			p := newPair(t, edges)
			ends := p.ends()
			for i := range 400 {
				from, to := ends[d(len(ends))], ends[d(len(ends))]
				if d(3) > 0 { // short rows, so that many of them come to lie beside each other
					at := d(len(edges))
					from, to = edges[at], edges[min(at+1+d(4), len(edges)-1)]
				}
				if d(2) == 0 {
					p.add(from, to)
				} else {
					p.cut(from, to)
				}
				if i%40 == 0 {
					p.look()
				}
			}
			p.look()
		}
	}
}

// P17.3, R7: neither of the two sees what is done to the other, nor does one more of the first.
func TestClone(t *testing.T) {
	for _, p := range histories(t) {
		one, two := p.clone(), p.clone()
		one.look()
		for i, from := range p.m.edges {
			to := p.m.edges[(i*3+2)%len(p.m.edges)]
			one.add(from, to)
			p.glance()
			two.glance()
			p.cut(from, to)
			one.glance()
			two.glance()
			one.cut(to, from)
			p.add(to, from)
			one.glance()
		}
		two.look()
		two.add(0, end)
		three := two.clone()
		three.cut(0, end)
		for _, x := range []*pair{p, one, two, three} {
			x.look()
		}
	}
}

// P17.3, R7: the same where there is room behind the last row: both add rows there, and each has its own.
func TestCloneWithRoom(t *testing.T) {
	for many := range 40 {
		r := ranges.New()
		for i := range many {
			r.Add(10*i, 10*i+5)
		}
		want := r.List()
		c := r.Clone()
		r.Add(10*many, 10*many+1)
		c.Add(10*many+2, 10*many+4)
		are(t, r, append(slices.Clone(want), api.Range{From: 10 * many, To: 10*many + 1}))
		are(t, c, append(slices.Clone(want), api.Range{From: 10*many + 2, To: 10*many + 4}))
		r.Cut(0, end)
		are(t, r, nil)
		are(t, c, append(slices.Clone(want), api.Range{From: 10*many + 2, To: 10*many + 4}))
	}
}

// R8: two that were made apart have nothing in common.
func TestApart(t *testing.T) {
	one, two := newPair(t, counted(0, 25)), newPair(t, counted(0, 25))
	for n := range 20 {
		one.add(n, n+1+n%2)
		two.glance()
		two.add(22-n, 24-n-n%2)
		one.glance()
		if n%3 == 0 {
			one.cut(n/2, n)
			two.glance()
		}
	}
	one.look()
	two.look()
}

func BenchmarkAddInOrder(b *testing.B) {
	r := ranges.New()
	n := 0
	for b.Loop() {
		r.Add(n, n+100)
		n += 100
	}
}

// thousand are many rows, 10 apart, of 5 numbers each.
func thousand() *ranges.Ranges {
	r := ranges.New()
	for i := range 1000 {
		r.Add(10*i, 10*i+5)
	}
	return r
}

// A gap amid many rows is filled, and opened again.
func BenchmarkAddAndCut(b *testing.B) {
	r := thousand()
	for b.Loop() {
		r.Add(5000, 5010)
		r.Cut(5005, 5010)
	}
}

func BenchmarkGap(b *testing.B) {
	r := thousand()
	for b.Loop() {
		r.Gap(5000, 9000)
	}
}
