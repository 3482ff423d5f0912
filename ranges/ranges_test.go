package ranges_test

import (
	"math"
	"slices"
	"testing"

	"sheave/api"
	"sheave/ranges"
)

// P17.1 to P17.3: the chapter's examples.
func TestExamples(t *testing.T) {
	r := ranges.New()
	adds := func(from, to, want int) {
		t.Helper()
		if got := r.Add(from, to); got != want {
			t.Errorf("Add(%d, %d): %d", from, to, got)
		}
	}
	adds(2, 5, 3)
	adds(4, 8, 3)
	adds(9, 10, 1)
	are(t, r, rows(2, 8, 9, 10))
	if got := r.Total(); got != 7 {
		t.Errorf("Total: %d", got)
	}
	if got := r.Next(2); got != 8 {
		t.Errorf("Next(2): %d", got)
	}
	if got := r.Next(0); got != 0 {
		t.Errorf("Next(0): %d", got)
	}
	if got, is := r.Gap(2, 12); !is || got != (api.Range{From: 8, To: 9}) {
		t.Errorf("Gap(2, 12): %v, %t", got, is)
	}
	if got, is := r.Gap(3, 5); is || got != (api.Range{}) {
		t.Errorf("Gap(3, 5): %v, %t", got, is)
	}
	if !r.Covers(9, 9) {
		t.Errorf("Covers(9, 9)")
	}
	if got := r.Cut(3, 4); got != 1 {
		t.Errorf("Cut(3, 4): %d", got)
	}
	are(t, r, rows(2, 3, 4, 8, 9, 10))
	adds(-5, 1, 1)
	if !r.Has(0) {
		t.Errorf("Has(0)")
	}
	adds(7, 3, 0)
}

// P17.1 to P17.3: ranges that are empty: new ones, those that were declared, and those of which all was taken away.
func TestEmpty(t *testing.T) {
	cut := of(rows(3, 9, 20, 30))
	cut.Cut(0, 100)
	for name, r := range map[string]*ranges.Ranges{"new": ranges.New(), "declared": new(ranges.Ranges), "cut": cut,
		"cloned": ranges.New().Clone(), "declared and cloned": new(ranges.Ranges).Clone()} {
		are(t, r, nil)
		for _, n := range append(outside(), 0, 1, 3, 8, 9, last, end) {
			if r.Has(n) {
				t.Errorf("%s: Has(%d)", name, n)
			}
			if got := r.Next(n); got != max(n, 0) {
				t.Errorf("%s: Next(%d): %d", name, n, got)
			}
			if !r.Covers(n, n) || r.Cut(n, n) != 0 || r.Add(n, n) != 0 {
				t.Errorf("%s: of no numbers, from %d", name, n)
			}
		}
		if r.Covers(5, 6) || r.Covers(0, end) || !r.Covers(6, 5) {
			t.Errorf("%s: Covers", name)
		}
		if got, is := r.Gap(5, 9); !is || got != (api.Range{From: 5, To: 9}) {
			t.Errorf("%s: Gap(5, 9): %v, %t", name, got, is)
		}
		if got := r.Cut(0, end); got != 0 {
			t.Errorf("%s: Cut: %d", name, got)
		}
		are(t, r, nil)
		if got := r.Add(3, 5); got != 2 {
			t.Errorf("%s: Add(3, 5): %d", name, got)
		}
		are(t, r, rows(3, 5))
	}
}

// three are the rows that others are added to, and cut from.
func three() []api.Range { return rows(10, 20, 30, 40, 50, 60) }

// change is a row that is added, or cut: how many numbers that makes another thing of, and what is there then.
type change struct {
	name     string
	from, to int
	many     int
	want     []api.Range
}

// changes makes each of them anew, and once more, when there is nothing left to change.
func changes(t *testing.T, call func(r *ranges.Ranges, from, to int) int, l []change) {
	t.Helper()
	for _, x := range l {
		r := of(three())
		for _, many := range []int{x.many, 0} {
			if got := call(r, x.from, x.to); got != many {
				t.Errorf("%s: of %d, %d: %d, not %d", x.name, x.from, x.to, got, many)
			}
			are(t, r, x.want)
		}
	}
}

// P17.1, P17.3: rows that are added, by how they lie to those that are there.
func TestAdd(t *testing.T) {
	changes(t, (*ranges.Ranges).Add, []change{
		{"apart, ahead of all", 2, 5, 3, rows(2, 5, 10, 20, 30, 40, 50, 60)},
		{"apart, from 0", 0, 9, 9, rows(0, 9, 10, 20, 30, 40, 50, 60)},
		{"apart, between", 22, 28, 6, rows(10, 20, 22, 28, 30, 40, 50, 60)},
		{"apart by one on both sides", 21, 29, 8, rows(10, 20, 21, 29, 30, 40, 50, 60)},
		{"apart, behind all", 70, 75, 5, rows(10, 20, 30, 40, 50, 60, 70, 75)},
		{"apart by one, behind all", 61, 62, 1, rows(10, 20, 30, 40, 50, 60, 61, 62)},
		{"touches the first, ahead", 5, 10, 5, rows(5, 20, 30, 40, 50, 60)},
		{"touches the first, behind", 20, 25, 5, rows(10, 25, 30, 40, 50, 60)},
		{"touches the second, ahead", 25, 30, 5, rows(10, 20, 25, 40, 50, 60)},
		{"touches the second, behind", 40, 49, 9, rows(10, 20, 30, 49, 50, 60)},
		{"touches the last, behind", 60, 61, 1, rows(10, 20, 30, 40, 50, 61)},
		{"touches two", 20, 30, 10, rows(10, 40, 50, 60)},
		{"touches the last two", 40, 50, 10, rows(10, 20, 30, 60)},
		{"one number ahead", 9, 10, 1, rows(9, 20, 30, 40, 50, 60)},
		{"one number behind", 20, 21, 1, rows(10, 21, 30, 40, 50, 60)},
		{"within", 12, 15, 0, three()},
		{"within, the beginning", 10, 12, 0, three()},
		{"within, the end", 38, 40, 0, three()},
		{"the first number", 50, 51, 0, three()},
		{"the last number", 59, 60, 0, three()},
		{"there already, the first", 10, 20, 0, three()},
		{"there already, the second", 30, 40, 0, three()},
		{"there already, the last", 50, 60, 0, three()},
		{"holds the first", 8, 25, 7, rows(8, 25, 30, 40, 50, 60)},
		{"holds the second", 25, 45, 10, rows(10, 20, 25, 45, 50, 60)},
		{"holds the last", 45, 65, 10, rows(10, 20, 30, 40, 45, 65)},
		{"holds one, from its beginning", 30, 45, 5, rows(10, 20, 30, 45, 50, 60)},
		{"holds one, up to its end", 25, 40, 5, rows(10, 20, 25, 40, 50, 60)},
		{"holds the first two", 8, 45, 17, rows(8, 45, 50, 60)},
		{"holds the last two", 25, 65, 20, rows(10, 20, 25, 65)},
		{"holds all", 5, 70, 35, rows(5, 70)},
		{"holds just all", 10, 60, 20, rows(10, 60)},
		{"overlaps one, its beginning", 25, 35, 5, rows(10, 20, 25, 40, 50, 60)},
		{"overlaps one, its end", 35, 45, 5, rows(10, 20, 30, 45, 50, 60)},
		{"overlaps two", 15, 35, 10, rows(10, 40, 50, 60)},
		{"overlaps two by one number", 19, 31, 10, rows(10, 40, 50, 60)},
		{"overlaps the outer two, holds the inner one", 15, 55, 20, rows(10, 60)},
		{"overlaps one, holds the one ahead", 5, 35, 15, rows(5, 40, 50, 60)},
		{"overlaps one, holds the one behind", 35, 65, 15, rows(10, 20, 30, 65)},
		{"touches one, overlaps the next", 20, 35, 10, rows(10, 40, 50, 60)},
		{"overlaps one, touches the next", 15, 30, 10, rows(10, 40, 50, 60)},
		{"touches the outer two, holds the inner one", 20, 50, 20, rows(10, 60)},
		{"touches one, holds the next", 20, 45, 15, rows(10, 45, 50, 60)},
		{"holds one, touches the next", 5, 30, 15, rows(5, 40, 50, 60)},
	})
}

// P17.1, P17.3: rows that are taken away, by how they lie to those that are there.
func TestCut(t *testing.T) {
	changes(t, (*ranges.Ranges).Cut, []change{
		{"apart, ahead of all", 2, 5, 0, three()},
		{"apart, between", 22, 28, 0, three()},
		{"apart, behind all", 70, 75, 0, three()},
		{"touches the first, ahead", 0, 10, 0, three()},
		{"touches one, behind", 20, 25, 0, three()},
		{"touches one, ahead", 45, 50, 0, three()},
		{"touches the last, behind", 60, 61, 0, three()},
		{"touches two", 20, 30, 0, three()},
		{"a beginning", 10, 12, 2, rows(12, 20, 30, 40, 50, 60)},
		{"an end", 38, 40, 2, rows(10, 20, 30, 38, 50, 60)},
		{"a middle", 12, 15, 3, rows(10, 12, 15, 20, 30, 40, 50, 60)},
		{"the second one's middle", 31, 39, 8, rows(10, 20, 30, 31, 39, 40, 50, 60)},
		{"the last one's middle", 55, 56, 1, rows(10, 20, 30, 40, 50, 55, 56, 60)},
		{"the first number", 50, 51, 1, rows(10, 20, 30, 40, 51, 60)},
		{"the last number", 19, 20, 1, rows(10, 19, 30, 40, 50, 60)},
		{"all but the last number", 30, 39, 9, rows(10, 20, 39, 40, 50, 60)},
		{"all but the first number", 31, 40, 9, rows(10, 20, 30, 31, 50, 60)},
		{"all of the first", 10, 20, 10, rows(30, 40, 50, 60)},
		{"all of the second", 30, 40, 10, rows(10, 20, 50, 60)},
		{"all of the last", 50, 60, 10, rows(10, 20, 30, 40)},
		{"holds the first", 5, 25, 10, rows(30, 40, 50, 60)},
		{"holds one, touches both others", 20, 50, 10, rows(10, 20, 50, 60)},
		{"holds the last", 45, 100, 10, rows(10, 20, 30, 40)},
		{"holds two", 5, 45, 20, rows(50, 60)},
		{"holds just two", 30, 60, 20, rows(10, 20)},
		{"holds all", 0, 100, 30, nil},
		{"holds just all", 10, 60, 30, nil},
		{"overlaps one, its beginning", 25, 35, 5, rows(10, 20, 35, 40, 50, 60)},
		{"overlaps one, its end", 15, 25, 5, rows(10, 15, 30, 40, 50, 60)},
		{"overlaps two", 15, 35, 10, rows(10, 15, 35, 40, 50, 60)},
		{"overlaps two by one number", 39, 51, 2, rows(10, 20, 30, 39, 51, 60)},
		{"overlaps the outer two, holds the inner one", 15, 55, 20, rows(10, 15, 55, 60)},
		{"overlaps one, holds the one ahead", 5, 35, 15, rows(35, 40, 50, 60)},
		{"overlaps one, holds the one behind", 15, 40, 15, rows(10, 15, 50, 60)},
		{"overlaps one, touches the next", 35, 50, 5, rows(10, 20, 30, 35, 50, 60)},
		{"touches one, overlaps the next", 20, 35, 5, rows(10, 20, 35, 40, 50, 60)},
	})
}

// P17.3: rows that touch are one, whether they were added one behind the other, backwards, or on both sides of one.
func TestTouchingRowsAreOne(t *testing.T) {
	for _, l := range [][]api.Range{rows(3, 4, 4, 5, 5, 6), rows(5, 6, 4, 5, 3, 4), rows(4, 5, 3, 4, 5, 6), rows(3, 4, 5, 6, 4, 5)} {
		are(t, of(l), rows(3, 6))
	}
	for _, l := range [][]api.Range{rows(0, 1, 1, last, last, end), rows(last, end, 0, last), rows(0, 1<<61, 1<<61, end)} {
		are(t, of(l), rows(0, end))
	}
	r := of(rows(0, 100))
	for n := 1; n < 100; n += 2 {
		r.Cut(n, n+1)
	}
	if got := len(r.List()); got != 50 || r.Total() != 50 {
		t.Errorf("%d rows, %d numbers", got, r.Total())
	}
	for n := 1; n < 99; n += 2 {
		r.Add(n, n+1)
	}
	are(t, r, rows(0, 99))
}

// P17.1, P17.2: which numbers from and to are, where they lie at the ends of the numbers that may be, or beyond, or the wrong way
// round: those that may not be are passed over, in each call that takes two.
func TestFromAndTo(t *testing.T) {
	for _, x := range []struct {
		from, to int
		want     []api.Range
	}{
		{0, 1, rows(0, 1)}, {-1, 1, rows(0, 1)}, {-5, 3, rows(0, 3)}, {-end, 3, rows(0, 3)}, {math.MinInt, 5, rows(0, 5)},
		{last, end, rows(last, end)}, {last, end + 1, rows(last, end)}, {last, math.MaxInt, rows(last, end)}, {last - 1, last, rows(last-1, last)},
		{5, end, rows(5, end)}, {5, math.MaxInt, rows(5, end)}, {0, end, rows(0, end)}, {-1, end + 1, rows(0, end)},
		{0, last, rows(0, last)}, {math.MinInt, last, rows(0, last)}, {math.MinInt, math.MaxInt, rows(0, end)},
		{0, 0, nil}, {7, 7, nil}, {last, last, nil}, {end, end, nil}, {-3, -3, nil}, {math.MinInt, math.MinInt, nil}, {math.MaxInt, math.MaxInt, nil},
		{7, 3, nil}, {1, 0, nil}, {end, last, nil}, {end, 0, nil}, {5, -5, nil}, {math.MaxInt, 5, nil}, {5, math.MinInt, nil}, {math.MaxInt, math.MinInt, nil},
		{-1, 0, nil}, {-5, -1, nil}, {math.MinInt, 0, nil}, {math.MinInt, -1, nil}, {end, end + 1, nil}, {end, math.MaxInt, nil},
		{math.MaxInt - 1, math.MaxInt, nil}, {end + 5, end + 9, nil},
	} {
		none, all := ranges.New(), of(rows(0, end))
		gap, is := none.Gap(x.from, x.to)
		if is != (len(x.want) > 0) || is && gap != x.want[0] || !is && gap != (api.Range{}) {
			t.Errorf("Gap(%d, %d) of none: %v, %t", x.from, x.to, gap, is)
		}
		if gap, is = all.Gap(x.from, x.to); is || gap != (api.Range{}) {
			t.Errorf("Gap(%d, %d) of all: %v, %t", x.from, x.to, gap, is)
		}
		if none.Covers(x.from, x.to) != (len(x.want) == 0) || !all.Covers(x.from, x.to) {
			t.Errorf("Covers(%d, %d): of none %t, of all %t", x.from, x.to, none.Covers(x.from, x.to), all.Covers(x.from, x.to))
		}
		if got := none.Add(x.from, x.to); got != size(x.want) {
			t.Errorf("Add(%d, %d) to none: %d", x.from, x.to, got)
		}
		if got := all.Add(x.from, x.to); got != 0 {
			t.Errorf("Add(%d, %d) to all: %d", x.from, x.to, got)
		}
		are(t, none, x.want)
		are(t, all, rows(0, end))
		if got := all.Cut(x.from, x.to); got != size(x.want) || all.Total() != end-size(x.want) {
			t.Errorf("Cut(%d, %d) of all: %d", x.from, x.to, got)
		}
		if got, _ := all.Gap(0, end); got != append(x.want, api.Range{})[0] {
			t.Errorf("Cut(%d, %d) of all: %v is missing", x.from, x.to, got)
		}
		if got := none.Cut(x.from, x.to); got != size(x.want) {
			t.Errorf("Cut(%d, %d) of these: %d", x.from, x.to, got)
		}
		are(t, none, nil)
	}
}

// P17.1 to P17.3: all numbers at once, and one by one less at the ends and within.
func TestAll(t *testing.T) {
	r := ranges.New()
	if got := r.Add(0, end); got != end {
		t.Errorf("Add: %d", got)
	}
	are(t, r, rows(0, end))
	for _, n := range []int{math.MinInt, -1, 0, 1, 1 << 40, last - 1, last, end} {
		if got := r.Next(n); got != end {
			t.Errorf("Next(%d): %d", n, got)
		}
		if got := r.Has(n); got != (n >= 0 && n <= last) {
			t.Errorf("Has(%d): %t", n, got)
		}
	}
	for _, n := range []int{end + 1, math.MaxInt} {
		if got := r.Next(n); got != n || r.Has(n) {
			t.Errorf("Next(%d): %d", n, got)
		}
	}
	if got, is := r.Gap(math.MinInt, math.MaxInt); is || got != (api.Range{}) || !r.Covers(math.MinInt, math.MaxInt) {
		t.Errorf("Gap: %v, %t", got, is)
	}
	for _, x := range []struct {
		n    int
		want []api.Range
	}{{0, rows(1, end)}, {last, rows(1, last)}, {1 << 50, rows(1, 1<<50, 1<<50+1, last)}} {
		if got := r.Cut(x.n, x.n+1); got != 1 || r.Has(x.n) || r.Next(x.n) != x.n {
			t.Errorf("Cut of %d: %d", x.n, got)
		}
		are(t, r, x.want)
	}
	if got := r.Add(math.MinInt, math.MaxInt); got != 3 {
		t.Errorf("Add: %d", got)
	}
	are(t, r, rows(0, end))
	if got := r.Cut(math.MinInt, math.MaxInt); got != end {
		t.Errorf("Cut: %d", got)
	}
	are(t, r, nil)
}

// P17.1 to P17.3: every set of the cells there is, and each row that can be added to it, or taken away.
func TestEachSetAndRow(t *testing.T) {
	for _, edges := range allEdges() {
		for set := range 1 << (len(edges) - 1) {
			p := newPair(t, edges)
			for i := range len(edges) - 1 {
				if set>>i&1 == 1 {
					p.r.Add(edges[i], edges[i+1])
					p.m.set(edges[i], edges[i+1], true)
				}
			}
			p.look()
			ends := slices.Concat(edges, []int{math.MinInt, -1, end + 1, math.MaxInt})
			for _, from := range ends {
				for _, to := range ends {
					p.clone().add(from, to)
					p.clone().cut(from, to)
				}
			}
			p.look()
		}
	}
}
