package window_test

import (
	"math"
	"slices"
	"testing"

	"sheave/api"
	"sheave/window"
)

// P14.3: how many were marked, with the top, as far as is seen.
func TestCount(t *testing.T) {
	w := window.New()
	for n := range 3 * sight {
		w.Mark(n)
		if got := w.Count(); got != min(n+1, sight) {
			t.Fatalf("behind %d: %d", n, got)
		}
	}
	w = window.New()
	for back := range 2 * sight {
		w.Mark(5*sight - back)
		if got := w.Count(); got != min(back+1, sight) {
			t.Fatalf("back by %d: %d", back, got)
		}
	}
}

// P14.3: a mark falls out of the count when its number goes out of sight, and not before.
func TestCountFalls(t *testing.T) {
	for step, want := range map[int]int{1: 4, 1020: 4, 1021: 4, 1022: 3, 1023: 2, 1024: 1, 1025: 1, 1 << 40: 1} {
		p := pairOf(t, 102, 101, 100)
		p.mark(102 + step)
		if got := p.w.Count(); got != want {
			t.Errorf("step %d: %d, not %d", step, got, want)
		}
	}
}

// P14.3: the top is in none of the ranges, however long the row is that it ends; one alone has none.
func TestBelowTop(t *testing.T) {
	for _, top := range []int{0, 1, 63, 64, 1023, 1024, 5000, last} {
		w := window.New()
		w.Mark(top)
		if got := w.Below(8); len(got) != 0 {
			t.Errorf("%d alone: %v", top, got)
		}
	}
	for _, x := range []struct {
		from, top int
		want      api.Range
	}{{0, 1, api.Range{From: 0, To: 1}}, {9, 10, api.Range{From: 9, To: 10}}, {0, 1023, api.Range{From: 0, To: 1023}},
		{0, 1024, api.Range{From: 1, To: 1024}}, {0, 1025, api.Range{From: 2, To: 1025}}, {3, 4000, api.Range{From: 2977, To: 4000}}} {
		p := newPair(t)
		p.run(x.from, x.top+1)
		if got := p.w.Below(8); !slices.Equal(got, []api.Range{x.want}) {
			t.Errorf("%d to %d: %v", x.from, x.top, got)
		}
	}
}

// P14.3: what was the top is in the ranges as soon as there is a greater one.
func TestBelowOldTop(t *testing.T) {
	p := pairOf(t, 10, 11, 13, 14, 16)
	if got := p.w.Below(8); !slices.Equal(got, []api.Range{{From: 10, To: 12}, {From: 13, To: 15}}) {
		t.Errorf("%v", got)
	}
	p.mark(15)
	if got := p.w.Below(8); !slices.Equal(got, []api.Range{{From: 10, To: 12}, {From: 13, To: 16}}) {
		t.Errorf("%v", got)
	}
	p.mark(18)
	if got := p.w.Below(8); !slices.Equal(got, []api.Range{{From: 10, To: 12}, {From: 13, To: 17}}) {
		t.Errorf("%v", got)
	}
}

// P14.3: the last ranges are told, rising, as many as are asked for, or all; none, if less than one is asked for.
func TestBelowMost(t *testing.T) {
	for many := range 12 {
		var all []api.Range
		p := newPair(t)
		for i := range many {
			from := 3000 + 70*i
			p.run(from, from+1+5*i)
			all = append(all, api.Range{From: from, To: from + 1 + 5*i})
		}
		p.mark(3000 + 900)
		for most := range many + 3 {
			if got := p.w.Below(most); !slices.Equal(got, all[max(many-most, 0):]) {
				t.Errorf("%d ranges, Below(%d): %v", many, most, got)
			}
		}
		for _, most := range []int{1 << 31, 1 << 32, 1 << 62, math.MaxInt} {
			if got := p.w.Below(most); !slices.Equal(got, all) {
				t.Errorf("%d ranges, Below(%d): %v", many, most, got)
			}
		}
		for _, most := range []int{math.MinInt, math.MinInt + 1, -1 << 32, -8, -1, 0} {
			if got := p.w.Below(most); len(got) != 0 {
				t.Errorf("%d ranges, Below(%d): %v", many, most, got)
			}
		}
	}
}

// P14.3: as many ranges as there can be: each second number.
func TestBelowComb(t *testing.T) {
	for _, top := range []int{0, 1, 2, 3, 1022, 1023, 1024, 1025, 6000, 6001} {
		p := newPair(t)
		for n := top % 2; n < top; n += 2 {
			p.just(n)
		}
		p.mark(top)
		all := p.w.Below(math.MaxInt)
		if len(all) != min(top/2, 511) {
			t.Errorf("top %d: %d ranges", top, len(all))
		}
		for most := range 520 {
			if got := p.w.Below(most); !slices.Equal(got, lastOf(all, most)) {
				t.Errorf("top %d, Below(%d): %v", top, most, got)
			}
		}
	}
}

// P14.3: a range may begin at the least number in sight, which it is cut off at, and end right ahead of the top.
func TestBelowAtTheEnds(t *testing.T) {
	for _, top := range []int{1023, 1024, 1025, 1086, 1087, 1088, 4711, 1 << 40, last} {
		least := top - sight + 1
		for _, x := range [][]api.Range{
			{{From: least, To: least + 1}},
			{{From: least, To: least + 100}},
			{{From: least + 1, To: least + 2}},
			{{From: top - 1, To: top}},
			{{From: top - 100, To: top}},
			{{From: top - 2, To: top - 1}},
			{{From: least, To: least + 1}, {From: top - 1, To: top}},
			{{From: least, To: top}},
		} {
			p := pairOf(t, top)
			for _, r := range x {
				p.run(r.From, r.To)
			}
			if got := p.w.Below(8); !slices.Equal(got, x) {
				t.Errorf("top %d: %v, not %v", top, got, x)
			}
		}
		if least < 10 {
			continue
		}
		p := newPair(t)
		p.run(least-10, least+10)
		p.mark(top)
		if got := p.w.Below(8); !slices.Equal(got, []api.Range{{From: least, To: least + 10}}) {
			t.Errorf("top %d, cut off: %v", top, got)
		}
	}
}

// P14.3: where a range lies makes no difference: it crosses each border that there may be within the marks.
func TestBelowAnywhere(t *testing.T) {
	for _, long := range []int{1, 2, 63, 64, 65, 130} {
		w := window.New()
		for n := range long {
			w.Mark(7000 + n)
		}
		for top := 7000 + long; top < 7000+long+sight+2; top++ {
			c := w.Clone()
			c.Mark(top)
			want := []api.Range{{From: max(7000, top-sight+1), To: 7000 + long}}
			if want[0].From >= want[0].To {
				want = nil
			}
			if got := c.Below(8); !slices.Equal(got, want) {
				t.Fatalf("%d long, top %d: %v, not %v", long, top, got, want)
			}
		}
	}
}

// P14.3: the same with a gap in a row: it is seen wherever it lies.
func TestGapAnywhere(t *testing.T) {
	for _, long := range []int{1, 2, 64} {
		for back := 1; back+long < sight; back++ {
			w := window.New()
			top := 9000
			for n := top - sight - 5; n <= top; n++ {
				if n < top-back-long || n >= top-back {
					w.Mark(n)
				}
			}
			want := []api.Range{{From: top - sight + 1, To: top - back - long}, {From: top - back, To: top}}
			want = slices.DeleteFunc(want, func(r api.Range) bool { return r.From == r.To })
			if got := w.Below(8); !slices.Equal(got, want) || w.Count() != sight-long {
				t.Fatalf("%d long, %d back: %v, not %v; count %d", long, back, got, want, w.Count())
			}
		}
	}
}

// P14.3: what is told is the caller's own: no later answer sees what becomes of it, nor do later marks reach it.
func TestBelowIsTheCallers(t *testing.T) {
	for _, p := range histories(t) {
		for _, most := range []int{1, 2, 8, math.MaxInt} {
			first := p.w.Below(most)
			kept := slices.Clone(first)
			other := p.w.Below(most)
			for i := range other {
				other[i] = api.Range{From: -7, To: -7}
			}
			other = append(other[:0], make([]api.Range, cap(other))...)
			if !slices.Equal(first, kept) {
				t.Errorf("two answers have memory in common: %v", first)
			}
			p.look()
			c := p.clone()
			if c.m.top+2 <= last {
				c.marks(c.m.top+2, c.m.top+1)
			}
			p.mark(max(p.m.top-5, 0))
			if !slices.Equal(first, kept) {
				t.Errorf("%v became %v", kept, first)
			}
		}
	}
}
