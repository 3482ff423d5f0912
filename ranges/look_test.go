package ranges_test

import (
	"math"
	"slices"
	"testing"

	"sheave/api"
	"sheave/ranges"
)

// P17.1: which numbers are there: those of the rows, and none beside them.
func TestHas(t *testing.T) {
	r := of(rows(0, 1, 10, 20, 30, 31, last, end))
	for n, want := range map[int]bool{math.MinInt: false, -1: false, 0: true, 1: false, 9: false, 10: true, 11: true, 19: true, 20: false,
		29: false, 30: true, 31: false, 32: false, last - 1: false, last: true, end: false, end + 1: false, math.MaxInt: false} {
		if got := r.Has(n); got != want {
			t.Errorf("Has(%d): %t", n, got)
		}
	}
}

// P17.1: Covers of parts of a row, of more than one, and of no numbers.
func TestCovers(t *testing.T) {
	r := of(rows(10, 20, 30, 40, last-5, end))
	for _, x := range []struct {
		from, to int
		want     bool
	}{
		{10, 20, true}, {10, 11, true}, {19, 20, true}, {12, 15, true}, {30, 40, true}, {last - 5, end, true}, {last, end, true},
		{last - 5, math.MaxInt, true}, {last, last + 100, true},
		{9, 20, false}, {9, 10, false}, {10, 21, false}, {20, 21, false}, {5, 25, false}, {0, 5, false}, {25, 26, false},
		{10, 40, false}, {12, 35, false}, {19, 31, false}, {20, 30, false}, {15, 30, false}, {20, 35, false}, {30, end, false},
		{math.MinInt, 20, false}, {-1, 1, false}, {math.MinInt, math.MaxInt, false}, {last - 6, end, false},
		{10, 10, true}, {5, 5, true}, {20, 20, true}, {25, 25, true}, {25, 5, true}, {15, 5, true}, {-9, -3, true}, {-1, 0, true},
		{end, math.MaxInt, true}, {math.MinInt, 0, true}, {math.MaxInt, math.MinInt, true},
	} {
		if got := r.Covers(x.from, x.to); got != x.want {
			t.Errorf("Covers(%d, %d): %t", x.from, x.to, got)
		}
	}
}

// P17.1: numbers of two rows are all there as soon as what is between them is.
func TestCoversOfTwo(t *testing.T) {
	r := of(rows(10, 20, 21, 30))
	if r.Covers(10, 30) || r.Covers(19, 22) {
		t.Errorf("20 is missing")
	}
	r.Add(20, 21)
	if !r.Covers(10, 30) || !r.Covers(19, 22) || r.Covers(9, 30) || r.Covers(10, 31) {
		t.Errorf("all are there: %v", r.List())
	}
}

// P17.2: the next number that is missing, from below 0, within rows, at their ends, beside them, and at the end of all numbers.
func TestNext(t *testing.T) {
	for _, x := range []struct {
		rows []api.Range
		want map[int]int
	}{
		{rows(0, 3, 10, 20, 21, 22), map[int]int{math.MinInt: 3, -1: 3, 0: 3, 1: 3, 2: 3, 3: 3, 4: 4, 9: 9, 10: 20, 11: 20, 19: 20, 20: 20,
			21: 22, 22: 22, 23: 23, last: last, end: end, math.MaxInt: math.MaxInt}},
		{rows(1, 3, last-2, last), map[int]int{math.MinInt: 0, -1: 0, 0: 0, 1: 3, 2: 3, 3: 3, last - 3: last - 3, last - 2: last, last - 1: last,
			last: last, end: end, end + 7: end + 7}},
		{rows(last, end), map[int]int{-7: 0, 0: 0, last - 1: last - 1, last: end, end: end, end + 1: end + 1, math.MaxInt - 1: math.MaxInt - 1}},
		{rows(5, end), map[int]int{0: 0, 4: 4, 5: end, 6: end, 1 << 40: end, last: end, end: end, end + 1: end + 1}},
	} {
		r := of(x.rows)
		for n, want := range x.want {
			if got := r.Next(n); got != want {
				t.Errorf("%v: Next(%d): %d, not %d", x.rows, n, got, want)
			}
		}
	}
}

// P17.2: the first row that is missing: where it begins and ends, and that it is told as long as it can be.
func TestGap(t *testing.T) {
	r := of(rows(10, 20, 21, 30, 40, 50))
	for _, x := range []struct {
		name     string
		from, to int
		want     []api.Range
	}{
		{"begins with from, ends at to, ahead of all", 2, 5, rows(2, 5)},
		{"begins with from, ends at to, between", 32, 35, rows(32, 35)},
		{"begins with from, ends at to, behind all", 60, 65, rows(60, 65)},
		{"begins with from, ends at a row", 5, 100, rows(5, 10)},
		{"begins with from, ends at a row and to", 5, 10, rows(5, 10)},
		{"begins with from, ends at a row, one number", 9, 12, rows(9, 10)},
		{"from is right behind a row", 30, 100, rows(30, 40)},
		{"from is right behind a row, ends at to", 30, 31, rows(30, 31)},
		{"begins behind a row, ends at the next", 10, 100, rows(20, 21)},
		{"begins behind a row, from within", 25, 100, rows(30, 40)},
		{"begins behind a row, from its last number", 29, 35, rows(30, 35)},
		{"begins behind a row, ends at to", 15, 21, rows(20, 21)},
		{"begins behind a row, ends at to within the gap", 22, 37, rows(30, 37)},
		{"begins behind the last row", 45, 70, rows(50, 70)},
		{"begins behind the last row, to the end of all", 45, math.MaxInt, rows(50, end)},
		{"begins at 0", math.MinInt, math.MaxInt, rows(0, 10)},
		{"begins at 0, ends at to", -3, 4, rows(0, 4)},
		{"at the end of all", last, math.MaxInt, rows(last, end)},
		{"none, of all of a row", 10, 20, nil},
		{"none, of a row's middle", 41, 49, nil},
		{"none, of a row's first number", 21, 22, nil},
		{"none, of a row's last number", 29, 30, nil},
		{"no numbers, within a row", 15, 15, nil},
		{"no numbers, beside the rows", 35, 35, nil},
		{"no numbers, the wrong way round", 37, 33, nil},
		{"no numbers, the wrong way round, behind a row", 25, 5, nil},
		{"no numbers, below 0", math.MinInt, 0, nil},
		{"no numbers, beyond all", end, math.MaxInt, nil},
	} {
		got, is := r.Gap(x.from, x.to)
		if want := append(x.want, api.Range{})[0]; got != want || is != (len(x.want) > 0) {
			t.Errorf("%s: Gap(%d, %d): %v, %t, not %v", x.name, x.from, x.to, got, is, want)
		}
	}
}

// P17.2: filling gap by gap ends in all of these numbers, and takes each one that was missing once.
func TestGapByGap(t *testing.T) {
	for name, p := range histories(t) {
		want := end - p.r.Total()
		got := 0
		for steps := 0; ; steps++ {
			gap, is := p.r.Gap(math.MinInt, math.MaxInt)
			if !is {
				break
			}
			if steps > len(p.m.edges) {
				t.Fatalf("%s: %d gaps", name, steps)
			}
			got += p.add(gap.From, gap.To)
		}
		if got != want || !p.r.Covers(0, end) {
			t.Errorf("%s: %d numbers, not %d", name, got, want)
		}
	}
}

// R6: asking changes nothing, whatever is asked.
func TestAskingChangesNothing(t *testing.T) {
	for name, p := range histories(t) {
		want := p.m.list()
		same := func(asked string, n int) {
			t.Helper()
			if got := p.r.List(); !slices.Equal(got, want) {
				t.Fatalf("%s: behind %s of %d: %v, not %v", name, asked, n, got, want)
			}
		}
		for _, n := range p.numbers() {
			p.r.Has(n)
			same("Has", n)
			p.r.Next(n)
			same("Next", n)
			for _, to := range p.numbers() {
				p.r.Covers(n, to)
				same("Covers", n)
				p.r.Gap(n, to)
				same("Gap", n)
			}
		}
		p.r.Total()
		same("Total", 0)
		p.r.Clone()
		same("Clone", 0)
		p.look()
		p.look()
	}
}

// P17.3, R7: what List answers is the caller's own: what is written there changes nothing here, nor in what was answered before; and what
// becomes of the ranges changes no list that was answered.
func TestListIsTheCallers(t *testing.T) {
	for name, p := range histories(t) {
		first := p.r.List()
		kept := slices.Clone(first)
		other := p.r.List()
		for i := range other[:cap(other)] {
			other[:cap(other)][i] = api.Range{From: -7, To: -3}
		}
		p.look()
		for _, from := range p.m.edges {
			for _, to := range p.m.edges {
				p.add(from, to)
				p.cut(to, from)
				p.cut(from, to)
			}
		}
		p.add(0, end)
		if !slices.Equal(first, kept) {
			t.Errorf("%s: %v became %v", name, kept, first)
		}
	}
}

// P17.3: the list of a thousand rows, and that it shrinks and grows as they do.
func TestManyRows(t *testing.T) {
	const many = 1000
	r := ranges.New()
	var want []api.Range
	for i := range many {
		if got := r.Add(7*i, 7*i+3); got != 3 {
			t.Fatalf("row %d: %d", i, got)
		}
		want = append(want, api.Range{From: 7 * i, To: 7*i + 3})
	}
	are(t, r, want)
	for i := range many {
		gap := api.Range{From: 7*i + 3, To: 7*i + 7}
		if got, is := r.Gap(7*i, end); !is || got.From != gap.From || i < many-1 && got != gap {
			t.Fatalf("gap %d: %v, %t", i, got, is)
		}
	}
	if got := r.Cut(7*100+1, 7*900+1); got != 3*800 {
		t.Errorf("Cut: %d", got)
	}
	want = slices.Concat(want[:100], rows(700, 701, 6301, 6303), want[901:])
	are(t, r, want)
	if got := r.Add(0, 7*many); got != 7*many-size(want) {
		t.Errorf("Add: %d", got)
	}
	are(t, r, rows(0, 7*many))
}
