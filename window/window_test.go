package window_test

import (
	"math"
	"slices"
	"testing"

	"sheave/api"
	"sheave/window"
)

// P14.1 to P14.3: the chapter's examples.
func TestExamples(t *testing.T) {
	w := window.New()
	if got := w.Top(); got != -1 {
		t.Errorf("Top: %d", got)
	}
	for _, x := range []struct {
		n    int
		want api.Errno
	}{{5, api.OK}, {5, api.ErrOld}, {3, api.OK}} {
		if got := w.Mark(x.n); got != x.want {
			t.Errorf("Mark(%d): %d", x.n, got)
		}
	}
	if got := w.Top(); got != 5 {
		t.Errorf("Top: %d", got)
	}
	if got := w.Count(); got != 2 {
		t.Errorf("Count: %d", got)
	}
	if got := w.Below(8); !slices.Equal(got, []api.Range{{From: 3, To: 4}}) {
		t.Errorf("Below(8): %v", got)
	}
	if got := w.Mark(1029); got != api.OK {
		t.Errorf("Mark(1029): %d", got)
	}
	for n, want := range map[int]api.Errno{5: api.ErrOld, 6: api.OK, -1: api.ErrArg} {
		if got := w.Check(n); got != want {
			t.Errorf("Check(%d): %d", n, got)
		}
	}
}

// P14.1: nothing is marked in a new window, and its top is -1; nor in one that was declared.
func TestNew(t *testing.T) {
	for name, w := range map[string]*window.Window{"made": window.New(), "declared": new(window.Window)} {
		if w.Top() != -1 || w.Count() != 0 {
			t.Errorf("%s: top %d, count %d", name, w.Top(), w.Count())
		}
		for _, most := range []int{math.MinInt, -1, 0, 1, 8, math.MaxInt} {
			if got := w.Below(most); len(got) != 0 {
				t.Errorf("%s: Below(%d): %v", name, most, got)
			}
		}
		for n, want := range map[int]api.Errno{0: api.OK, 1: api.OK, sight: api.OK, last - 1: api.OK, last: api.OK,
			-1: api.ErrArg, -sight: api.ErrArg, -sight - 1: api.ErrArg, last + 1: api.ErrArg, math.MinInt: api.ErrArg, math.MaxInt: api.ErrArg} {
			if got := w.Check(n); got != want {
				t.Errorf("%s: Check(%d): %d, not %d", name, n, got, want)
			}
		}
	}
}

// P14.1: Top is the greatest number that was marked, whatever came behind it, and 0 is one like the others.
func TestTop(t *testing.T) {
	w := window.New()
	for _, x := range []struct{ n, top int }{{0, 0}, {0, 0}, {7, 7}, {3, 7}, {7, 7}, {8, 8}, {1, 8}, {5000, 5000}, {4000, 5000},
		{3976, 5000}, {-1, 5000}, {last + 1, 5000}, {math.MaxInt, 5000}, {last, last}, {last - 1, last}} {
		w.Mark(x.n)
		if got := w.Top(); got != x.top {
			t.Errorf("behind %d: %d, not %d", x.n, got, x.top)
		}
	}
}

// P14.2: what is no number of a record is ErrArg, in each window, even where it is also out of sight.
func TestNoNumber(t *testing.T) {
	for name, p := range histories(t) {
		for _, n := range []int{math.MinInt, math.MinInt + 1, -1 << 48, -sight - 1, -sight, -2, -1, last + 1, last + 2, 1 << 62, math.MaxInt} {
			if got := p.w.Check(n); got != api.ErrArg {
				t.Errorf("%s: Check(%d): %d", name, n, got)
			}
			if got := p.w.Mark(n); got != api.ErrArg {
				t.Errorf("%s: Mark(%d): %d", name, n, got)
			}
		}
		p.look()
	}
}

// P14.2: at the edges of what is seen, a number is refused where it was marked, and where it may have been.
func TestEdges(t *testing.T) {
	for _, top := range []int{1025, 1026, 2047, 2048, 5000, 1 << 32, last - 1, last} {
		for _, x := range []struct {
			back           int
			fresh, marking api.Errno // of a number that was not marked, and of one that was while it was in sight
		}{{0, api.ErrOld, api.ErrOld}, {1, api.OK, api.ErrOld}, {2, api.OK, api.ErrOld}, {63, api.OK, api.ErrOld},
			{64, api.OK, api.ErrOld}, {1022, api.OK, api.ErrOld}, {1023, api.OK, api.ErrOld}, {1024, api.ErrOld, api.ErrOld},
			{1025, api.ErrOld, api.ErrOld}} {
			n := top - x.back
			p := pairOf(t, top)
			if got := p.w.Check(n); got != x.fresh {
				t.Errorf("top %d, Check(%d): %d", top, n, got)
			}
			if got := p.clone().w.Mark(n); got != x.fresh {
				t.Errorf("top %d, Mark(%d): %d", top, n, got)
			}
			p.mark(n)
			p = pairOf(t, n, top)
			if got := p.w.Check(n); got != x.marking {
				t.Errorf("top %d, Check(%d) of one that was marked: %d", top, n, got)
			}
			p.mark(n)
		}
	}
}

// P14.2: no number is out of sight until 1024 or a greater one is marked; then 0 is the first that is.
func TestFirstSight(t *testing.T) {
	for top := range 2*sight + 2 {
		w := window.New()
		w.Mark(top)
		want := api.OK
		if top == 0 || top >= sight {
			want = api.ErrOld
		}
		if got := w.Check(0); got != want {
			t.Errorf("top %d: Check(0): %d, not %d", top, got, want)
		}
	}
}

// P14.2: steps upwards of all sizes: what was marked is still known as far as it is in sight, and what comes into sight anew was
// not marked, whatever was where its mark stands.
func TestSteps(t *testing.T) {
	for _, step := range []int{1, 2, 3, 31, 32, 62, 63, 64, 65, 66, 127, 128, 129, 511, 512, 513, 960, 1022, 1023, 1024, 1025, 1087, 1088,
		2047, 2048, 2049, 4096, 1 << 16, 1 << 31, 1 << 32, 1<<47 + 5, last - 2*sight} {
		for name, p := range histories(t) {
			if p.m.top+step > last {
				continue
			}
			p.mark(p.m.top + step)
			if step < sight && name == "full" && p.w.Count() != sight-step+1 {
				t.Errorf("step %d: %d marks", step, p.w.Count())
			}
			if step >= sight && p.w.Count() != 1 {
				t.Errorf("%s, step %d: %d marks", name, step, p.w.Count())
			}
			p.mark(p.m.top - 1)
			if p.m.top < last {
				p.mark(p.m.top + 1)
			}
		}
	}
}

// P14.2: the step that brings any number to the end of all.
func TestStepsToTheEnd(t *testing.T) {
	for from := range 200 {
		p := pairOf(t, from)
		p.just(last)
		p.glance()
		p.just(from)
		p.just(last - sight + 1)
		p.glance()
	}
}

// P14.2: many steps behind each other carry the marks along as one step does.
func TestStepsInARow(t *testing.T) {
	base := newPair(t)
	for n := 10000; n < 10000+sight; n += 1 + n%3 {
		base.just(n)
	}
	for _, sizes := range [][]int{{1, 63}, {63, 1}, {64, 64}, {1, 64, 63}, {63, 65}, {500, 523}, {500, 524}, {1023, 1}, {1, 1023}, {65, 65, 65, 65, 65}} {
		p := base.clone()
		for _, size := range sizes {
			p.mark(p.m.top + size)
		}
	}
}

// P14.2: a Mark that is refused changes nothing; nor does any Check.
func TestRefused(t *testing.T) {
	for _, p := range histories(t) {
		for _, n := range []int{math.MinInt, -1, last + 1, math.MaxInt, p.m.top - sight, p.m.top - sight - 1, p.m.top - 3*sight, 0, p.m.top} {
			if p.m.check(n) == api.OK {
				continue
			}
			p.mark(n)
		}
		for n := range p.m.set {
			p.just(n)
		}
		p.look()
	}
}

// P14.2: at the end of the numbers: the last one can be marked, once, and those ahead of it as far as is seen.
func TestEnd(t *testing.T) {
	for _, from := range []int{0, 1000, last - 2*sight, last - sight, last - sight + 1, last - 64, last - 2, last - 1} {
		p := pairOf(t, from)
		p.marks(last, last, last+1, last-1, last-1, last-sight, last-sight+1, last-sight+1, last-64)
		if p.w.Top() != last || p.w.Check(last) != api.ErrOld || p.w.Check(last+1) != api.ErrArg {
			t.Errorf("from %d: top %d", from, p.w.Top())
		}
	}
	p := newPair(t)
	p.run(last-2*sight, last+1)
	if got := p.w.Below(8); !slices.Equal(got, []api.Range{{From: last - sight + 1, To: last}}) || p.w.Count() != sight {
		t.Errorf("all to the end: %v, count %d", got, p.w.Count())
	}
}
