package paths_test

import (
	"maps"
	"math"
	"slices"
	"testing"

	"sheave/api"
	"sheave/paths"
	"sheave/sample"
)

// P20.7: a number that was used, in each way that there is, is never used again: neither at once nor when all else has gone.
func TestUsedOnce(t *testing.T) {
	k := token(5)
	for name, use := range map[string]func(p *pair){
		"begun":                func(p *pair) { p.begin(5) },
		"added":                func(p *pair) { p.add(5, k, 0) },
		"asked":                func(p *pair) { p.add(5, k, 0); p.due(0) },
		"answered":             func(p *pair) { p.add(5, k, 0); p.answer(5, k) },
		"removed when live":    func(p *pair) { p.begin(5); p.remove(5) },
		"removed when new":     func(p *pair) { p.add(5, k, 0); p.remove(5) },
		"removed when asked":   func(p *pair) { p.add(5, k, 0); p.due(0); p.remove(5) },
		"answered and removed": func(p *pair) { p.add(5, k, 0); p.answer(5, k); p.remove(5) },
		"failed":               func(p *pair) { p.inState(5, api.PathFailed) },
	} {
		p := newPair(t)
		use(p)
		for round := range 3 {
			if p.begin(5) != api.ErrUsed || p.add(5, k, 0) != api.ErrUsed {
				t.Errorf("%s: used again", name)
			}
			if round == 1 {
				p.remove(5)
			}
			for id := range 4 { // others come and go
				p.begin(10*round + 100 + id)
			}
			for id := range 4 {
				p.remove(10*round + 100 + id)
			}
			p.due(math.MaxInt)
		}
	}
}

// P20.7: all numbers are used up, one behind the other, in each way: then none is left, though no path is there.
func TestAllUsedUp(t *testing.T) {
	p := newPair(t)
	for id := range 256 {
		p.inState(id, 1+id%4)
		p.answer(id, token(id))
		p.remove(id)
	}
	if got := p.x.Live(); len(got) != 0 || len(p.m.tried) != 0 {
		t.Errorf("%d", got)
	}
	for id := range 256 {
		errs(t, "Begin", p.x.Begin(id), api.ErrUsed)
		errs(t, "Add", p.x.Add(id, token(id), 0), api.ErrUsed)
	}
	p.look()
}

// P20.1 to P20.6: tables of all kinds, and each call.
func TestEachHistoryAndCall(t *testing.T) {
	ids := []int{math.MinInt, -1, 0, 1, 2, 3, 4, 5, 8, 10, 15, 16, 255, 256, math.MaxInt}
	moments := append(edges(), 0, 1, 50, 199, 200, 300, 1199, 1200, 5000, api.MaxClock-1, api.MaxClock, api.MaxClock+1)
	for _, p := range histories(t) {
		p.look()
		for _, now := range moments {
			c := p.clone()
			c.due(now)
			c.look()
		}
		for _, id := range ids {
			c := p.clone()
			c.begin(id)
			c.look()
			c = p.clone()
			c.remove(id)
			c.look()
			for _, now := range moments {
				c := p.clone()
				c.add(id, token(77), now)
				c.look()
				c = p.clone()
				c.sample(id, now)
			}
			for _, k := range [][8]byte{{}, token(id), token(1), token(77), p.m.tried[id].token} {
				c := p.clone()
				c.answer(id, k)
				c.look()
			}
		}
		p.look()
	}
}

// P20.2 to P20.6: of two numbers every pair of states, and each row of three calls.
func TestEachThreeCalls(t *testing.T) {
	calls := []func(x *paths.Table, m *model) (got, want any){}
	for id := range 2 {
		calls = append(calls,
			func(x *paths.Table, m *model) (any, any) { return x.Begin(id), m.begin(id) },
			func(x *paths.Table, m *model) (any, any) {
				return x.Add(id, token(id+5), 150), m.add(id, token(id+5), 150)
			},
			func(x *paths.Table, m *model) (any, any) { return x.Answer(id, token(id)), m.answer(id, token(id)) },
			func(x *paths.Table, m *model) (any, any) { return x.Answer(id, token(id+5)), m.answer(id, token(id+5)) },
			func(x *paths.Table, m *model) (any, any) { return x.Remove(id), m.remove(id) },
			func(x *paths.Table, m *model) (any, any) { x.Sample(id, 180); m.sample(id, 180); return nil, nil })
	}
	for _, now := range []int{0, 150, 350, 5000} {
		calls = append(calls, func(x *paths.Table, m *model) (any, any) {
			got, want := x.Due(now), m.due(now)
			return slices.Equal(got, want), true
		})
	}
	each := func(p *pair, then func(p *pair)) {
		for i, call := range calls {
			c := p.clone()
			if got, want := call(c.x, c.m); got != want {
				t.Fatalf("call %d: %v, not %v", i, got, want)
			}
			then(c)
		}
	}
	for code := range 25 {
		p := newPair(t)
		one, two := code/5, code%5
		if one == api.PathNew { // the other one's moments would be its own too
			p.inState(1, two)
			p.inState(0, one)
		} else {
			p.inState(0, one)
			p.inState(1, two)
		}
		each(p, func(p *pair) {
			each(p, func(p *pair) {
				each(p, func(p *pair) {
					for id := range 2 {
						k, _ := p.x.Token(id)
						if p.x.State(id) != p.m.state(id) || p.x.RTT(id) != p.m.rtt(id) || k != p.m.tried[id].token {
							t.Fatalf("%d: State %d, RTT %d, Token %x", id, p.x.State(id), p.x.RTT(id), k)
						}
					}
				})
			})
		})
	}
}

// drawnNumber is mostly one of a few, so that calls meet.
func drawnNumber(d func(int) int, most int) int {
	switch d(20) {
	case 0:
		return edges()[d(len(edges()))]
	case 1:
		return d(300) - 20
	}
	return d(most)
}

// drawnMoment is mostly behind the last one, by steps such as make paths due, at once or by and by.
func drawnMoment(d func(int) int, last *int) int {
	switch d(30) {
	case 0:
		return edges()[d(len(edges()))]
	case 1:
		return d(*last + 2)
	}
	*last += d([]int{2, 30, 300, 2000}[d(4)])
	return *last
}

// drawnCall is a call without a rule.
func drawnCall(p *pair, d func(int) int, most int, last *int) {
	p.t.Helper()
	id := drawnNumber(d, most)
	switch d(12) {
	case 0, 1:
		p.begin(id)
	case 2, 3, 4:
		p.add(id, token(d(50)), drawnMoment(d, last))
	case 5, 6, 7, 8:
		p.due(drawnMoment(d, last))
	case 9:
		if k := p.m.tried[id].token; d(3) > 0 {
			p.answer(id, k)
		} else {
			p.answer(id, token(d(50)))
		}
	case 10:
		if d(2) == 0 {
			p.remove(id)
		}
	case 11:
		p.sample(id, drawnMoment(d, new(int)))
	}
}

// P20.1 to P20.7: rows of calls without a rule, held against the plain model at each step; no number is used again, and 16 at most are
// in use.
func TestDrawn(t *testing.T) {
	for seed := range uint64(40) {
		d := sample.Draw(seed)
		most := []int{3, 17, 30, 100, 256}[seed%5]
		last := 0
		if seed%8 == 7 {
			last = api.MaxClock - 5000
		}
		p := newPair(t)
		used := map[int]int{} // the furthest that each has come: none goes back
		for i := range 400 {
			drawnCall(p, d, most, &last)
			many := 0
			for id := range 256 {
				state := p.x.State(id)
				if state == api.PathNew || state == api.PathLive {
					many++
				}
				if state < used[id] || used[id] >= api.PathGone && state != used[id] {
					t.Fatalf("seed %d: %d went from %d to %d", seed, id, used[id], state)
				}
				used[id] = state
			}
			if many > 16 {
				t.Fatalf("seed %d: %d in use", seed, many)
			}
			if i%50 == 0 {
				p.look()
			}
		}
		p.look()
	}
}

// P20.3: what is tried and never answered is asked four times, whatever the moments are, if they only go on; and fails then.
func TestTriedInTheEnd(t *testing.T) {
	for seed := range uint64(200) {
		d := sample.Draw(seed + 500)
		x := paths.New()
		asked := map[int]int{}
		for _, id := range sample.Shuffled([]int{0, 4, 7, 99, 255}, d) {
			errs(t, "Add", x.Add(id, token(id), d(1000)), api.OK)
			asked[id] = 0
		}
		for now := 0; now < 40000; now += 1 + d(2000) {
			for _, id := range x.Due(now) {
				asked[id]++
			}
		}
		for id, many := range asked {
			if many != 4 || x.State(id) != api.PathFailed {
				t.Errorf("seed %d: %d was asked %d times, and is %d", seed, id, many, x.State(id))
			}
		}
	}
}

// P20.1, P20.3, R7: what Due and Live gave is the caller's own: what is written there, or behind it, is not seen here, and it stays as
// it is.
func TestListsAreTheCallers(t *testing.T) {
	x := paths.New()
	for id := range 8 {
		x.Begin(2 * id)
		x.Add(2*id+1, token(id), 0)
	}
	due, live := x.Due(0), x.Live()
	wantDue, wantLive := slices.Clone(due), slices.Clone(live)
	other, otherLive := x.Due(200), x.Live()
	if !slices.Equal(other, wantDue) || !slices.Equal(otherLive, wantLive) {
		t.Errorf("%d, %d", other, otherLive)
	}
	spoil(other)
	spoil(otherLive)
	_ = append(other, 1, 2, 3)
	_ = append(otherLive, 1, 2, 3)
	if got := x.Live(); !slices.Equal(got, wantLive) {
		t.Errorf("Live: %d", got)
	}
	dues(t, x, 600, wantDue...)
	x.Remove(4)
	x.Remove(5)
	x.Answer(3, token(1))
	x.Due(1400)
	if !slices.Equal(due, wantDue) || !slices.Equal(live, wantLive) {
		t.Errorf("became %d, %d", due, live)
	}
}

// P20.6, R7: neither of the two sees what is done to the other, nor does one more of the first.
func TestClone(t *testing.T) {
	for _, p := range histories(t) {
		one, two := p.clone(), p.clone()
		one.look()
		for _, call := range []func(p *pair){
			func(p *pair) { p.begin(40) },
			func(p *pair) { p.add(41, token(41), 90) },
			func(p *pair) { p.sample(0, 5000) },
			func(p *pair) { p.due(90) },
			func(p *pair) {
				for _, id := range slices.Sorted(maps.Keys(p.m.tried)) {
					p.answer(id, p.m.tried[id].token)
					return
				}
			},
			func(p *pair) { p.due(2000) },
			func(p *pair) { p.remove(0) },
			func(p *pair) { p.remove(41) },
			func(p *pair) { p.add(42, token(42), 5) },
			func(p *pair) { p.due(api.MaxClock) },
		} {
			call(one)
			p.glance()
			two.look()
			three := one.clone()
			call(p)
			one.glance()
			call(three)
			call(three)
			one.look()
			p.look()
		}
		two.look()
	}
}

// R8: two that were made apart have nothing in common.
func TestApart(t *testing.T) {
	one, two := newPair(t), newPair(t)
	d := sample.Draw(8)
	last := 0
	for range 300 {
		drawnCall(one, d, 20, &last)
		two.glance()
		drawnCall(two, d, 20, &last)
		one.glance()
	}
	one.look()
	two.look()
}

// P20.1 to P20.6: a table that was declared is one that was made, and so is its clone.
func TestDeclared(t *testing.T) {
	for _, x := range []*paths.Table{new(paths.Table), new(paths.Table).Clone(), paths.New().Clone()} {
		p := &pair{t, x, newModel()}
		p.look()
		p.begin(0)
		p.add(255, token(1), 7)
		p.due(7)
		p.answer(255, token(1))
		p.sample(255, 180)
		p.remove(0)
		p.look()
	}
}

// full is a table with as many paths as may be, half of them live.
func full() *paths.Table {
	x := paths.New()
	for id := range 8 {
		x.Begin(id)
		x.Add(100+id, token(id), 0)
	}
	return x
}

func BenchmarkDue(b *testing.B) {
	x := full()
	for b.Loop() {
		x.Clone().Due(0)
	}
}

func BenchmarkLive(b *testing.B) {
	x := full()
	for b.Loop() {
		x.Live()
	}
}

func BenchmarkSample(b *testing.B) {
	x := full()
	for b.Loop() {
		x.Sample(3, 180)
	}
}

func BenchmarkClone(b *testing.B) {
	x := full()
	for b.Loop() {
		x.Clone()
	}
}
