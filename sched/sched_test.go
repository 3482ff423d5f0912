package sched_test

import (
	"math"
	"slices"
	"testing"

	"sheave/api"
	"sheave/sample"
	"sheave/sched"
)

// are holds ranges that were told to those that must be.
func are(t *testing.T, what string, got, want []api.Range) {
	t.Helper()
	if !slices.Equal(got, want) {
		t.Errorf("%s: %v, not %v", what, got, want)
	}
}

// is holds a path's window, and how many records are under way there, to what they must be.
func is(t *testing.T, s *sched.Sched, id, window, under int) {
	t.Helper()
	if s.Window(id) != window || s.Under(id) != under {
		t.Errorf("%d: Window %d, Under %d, not %d, %d", id, s.Window(id), s.Under(id), window, under)
	}
}

// picks holds Pick to the path that it must tell.
func picks(t *testing.T, s *sched.Sched, live, rtt []int, want int) {
	t.Helper()
	if id, is := s.Pick(live, rtt); id != want || !is {
		t.Errorf("Pick(%d, %d): %d, %t, not %d", live, rtt, id, is, want)
	}
}

// picksNone holds Pick to telling none.
func picksNone(t *testing.T, s *sched.Sched, live, rtt []int) {
	t.Helper()
	if id, is := s.Pick(live, rtt); id != 0 || is {
		t.Errorf("Pick(%d, %d): %d, %t", live, rtt, id, is)
	}
}

// gets holds Got to what must be lost, and to the ticks.
func gets(t *testing.T, s *sched.Sched, id, top int, l []api.Range, now int, lost []api.Range, ticks int) {
	t.Helper()
	if got, n := s.Got(id, top, l, now); !slices.Equal(got, lost) || n != ticks {
		t.Errorf("Got(%d, %d, %v, %d): %v, %d, not %v, %d", id, top, l, now, got, n, lost, ticks)
	}
}

// one is what the record with a counter carries in tests that see by it which record was told.
func one(counter int) []api.Range { return rows(counter, counter+1) }

// ones is what several carry.
func ones(counters ...int) []api.Range {
	var l []api.Range
	for _, c := range counters {
		l = append(l, one(c)...)
	}
	return l
}

// under is a sched with the path id open, and the records with these counters under way there since the moment 10.
func under(id int, counters ...int) *sched.Sched {
	s := sched.New(api.Fastest)
	s.Open(id)
	for _, c := range counters {
		s.Sent(id, c, 10, one(c))
	}
	return s
}

// P21.1 to P21.4: the chapter's examples.
func TestExamples(t *testing.T) {
	s := sched.New(api.Turns)
	s.Open(1)
	s.Open(2)
	for _, want := range []int{1, 2, 1} {
		picks(t, s, []int{1, 2}, nil, want)
	}
	for c := range 5 {
		s.Sent(1, c, 10, rows(c, c+1))
	}
	is(t, s, 1, 4, 5)
	picksNone(t, s, []int{1}, []int{7})
	gets(t, s, 1, 4, rows(3, 4), 25, rows(0, 1, 1, 2), 15)
	is(t, s, 1, 3, 1)
	are(t, "Late", s.Late(1, 20, 11), nil)
	are(t, "Late", s.Late(1, 20, 10), rows(2, 3))
	is(t, s, 1, 2, 0)
}

// ids are numbers of paths: at the ends of what a path may have, beside them, and at the ends of all numbers.
func ids() []int { return []int{math.MinInt, -1, 0, 255, 256, math.MaxInt} }

// P21.1: a new one has no path that is open, whichever number is asked for, and whatever the policy.
func TestNew(t *testing.T) {
	for _, policy := range append(edges(), 0, 1, 2, 3, 7, 255) {
		s := sched.New(policy)
		for _, id := range append(ids(), edges()...) {
			is(t, s, id, 0, 0)
			are(t, "Close", s.Close(id), nil)
			are(t, "Late", s.Late(id, api.MaxClock, 0), nil)
			gets(t, s, id, 5, rows(0, 9), 9, nil, -1)
			picksNone(t, s, []int{id}, []int{1})
		}
		picksNone(t, s, nil, nil)
	}
}

// P21.1, P21.4: 1 is Turns; every other number is Fastest.
func TestPolicies(t *testing.T) {
	for _, policy := range append(edges(), 0, 1, 2, 3, 4, 7, 255, 256, 257, 1<<32, 1<<32+1) {
		s := sched.New(policy)
		s.Open(1)
		s.Open(2)
		for _, want := range []int{1, 2, 1, 2} {
			if policy != 1 {
				want = 2
			}
			picks(t, s, []int{1, 2}, []int{9, 5}, want)
		}
	}
}

// P21.1 to P21.4: each call of each number, of a path that is open, that never was, and that was closed.
func TestEachNumber(t *testing.T) {
	for _, id := range ids() {
		for _, policy := range []int{api.Fastest, api.Turns} {
			for _, kind := range []string{"never", "closed", "open"} {
				p := newPair(t, policy).open(7).sends(7, 0, 1)
				if kind != "never" {
					p.open(id).sends(id, 0, 1, 2, 3)
				}
				if kind == "closed" {
					p.close(id)
				}
				want, window := 0, 0
				if kind == "open" && id >= 0 {
					want, window = 4, 4
				}
				is(t, p.s, id, window, want)
				for name, call := range map[string]func(p *pair){
					"Open":          func(p *pair) { p.open(id) },
					"Close":         func(p *pair) { p.close(id) },
					"Close, twice":  func(p *pair) { p.close(id); p.close(id) },
					"Sent":          func(p *pair) { p.sent(id, 4, 5, one(4)) },
					"Sent, again":   func(p *pair) { p.sent(id, 3, 5, one(3)) },
					"Got":           func(p *pair) { p.got(id, 3, rows(2, 3), 200) },
					"Got of none":   func(p *pair) { p.got(id, 9, nil, 200) },
					"Late":          func(p *pair) { p.late(id, 101, 0) },
					"Pick":          func(p *pair) { p.pick([]int{id}, []int{4}) },
					"Pick of two":   func(p *pair) { p.pick([]int{7, id}, []int{4, 3}) },
					"Open and Pick": func(p *pair) { p.open(id).pick([]int{7, id}, []int{4, 3}) },
				} {
					c := p.clone()
					call(c)
					c.look()
					if c.s.Under(7) != 2 || c.s.Window(7) != 4 {
						t.Errorf("%s of %d, %s: Under(7) %d, Window(7) %d", name, id, kind, c.s.Under(7), c.s.Window(7))
					}
				}
			}
		}
	}
}

// P21.1: a number below 0 is never opened; every other one is, with a window of 4 and nothing under way.
func TestOpen(t *testing.T) {
	for _, id := range append(edges(), -2, 0, 1, 15, 16, 254, 255, 256, 1<<16, 1<<32, 1<<48) {
		s := sched.New(api.Fastest)
		s.Open(id)
		s.Sent(id, 0, 0, one(0))
		if id < 0 {
			is(t, s, id, 0, 0)
			are(t, "Close", s.Close(id), nil)
			picksNone(t, s, []int{id}, nil)
			continue
		}
		is(t, s, id, 4, 1)
		picks(t, s, []int{id}, nil, id)
		are(t, "Close", s.Close(id), one(0))
		is(t, s, id, 0, 0)
	}
}

// P21.1: more paths may be open than a table has, each by itself.
func TestManyOpen(t *testing.T) {
	s := sched.New(api.Turns)
	for id := range 500 {
		s.Open(id)
		for c := range id % 6 {
			s.Sent(id, c, 0, one(id))
		}
	}
	for id := range 500 {
		is(t, s, id, 4, id%6)
	}
	for id := 0; id < 500; id += 2 {
		if got := s.Close(id); len(got) != id%6 {
			t.Errorf("Close(%d): %v", id, got)
		}
	}
	for id := range 500 {
		is(t, s, id, 4*(id%2), id%6*(id%2))
	}
}

// P21.1: Open of a path that is open changes nothing; behind Close it begins anew, with counters from 0 on.
func TestOpenAgain(t *testing.T) {
	s := under(3, 0, 1, 2, 3)
	gets(t, s, 3, 1, rows(0, 1), 15, nil, 5)
	is(t, s, 3, 6, 2)
	s.Open(3)
	is(t, s, 3, 6, 2)
	s.Sent(3, 3, 10, one(77))
	s.Sent(3, 0, 10, one(77))
	is(t, s, 3, 6, 2)
	are(t, "Close", s.Close(3), ones(2, 3))
	is(t, s, 3, 0, 0)
	s.Sent(3, 9, 10, one(9))
	is(t, s, 3, 0, 0)
	s.Open(3)
	is(t, s, 3, 4, 0)
	are(t, "Late", s.Late(3, api.MaxClock, 0), nil)
	is(t, s, 3, 4, 0)
	s.Sent(3, 0, 30, one(50))
	s.Sent(3, 3, 31, one(53))
	is(t, s, 3, 4, 2)
	gets(t, s, 3, 3, nil, 40, one(50), 9)
	are(t, "Close", s.Close(3), nil)
}

// P21.1: what Close tells: nothing, of one, of several, in the order that they were sent in; and nothing the next time.
func TestClose(t *testing.T) {
	for _, counters := range [][]int{nil, {0}, {5}, {api.MaxCounter}, {0, 1}, {3, 9, 10, 11, 500}, counted(0, 40)} {
		s := under(6, counters...)
		s.Open(7)
		s.Sent(7, 0, 0, one(1000))
		are(t, "Close", s.Close(6), ones(counters...))
		are(t, "Close, again", s.Close(6), nil)
		is(t, s, 6, 0, 0)
		is(t, s, 7, 4, 1)
	}
	s := under(6, counted(0, 8)...)
	gets(t, s, 6, 6, rows(2, 3), 20, ones(0, 1, 3), 10)
	are(t, "Close", s.Close(6), ones(4, 5, 7))
}

// P21.1, P21.3: what is told goes by the records, not by the numbers that they carry: neither sorted nor joined.
func TestToldInTheirOrder(t *testing.T) {
	carries := [][]api.Range{rows(90, 95, 0, 3), rows(3, 6), nil, rows(5, 5), rows(8, 7), rows(90, 95), rows(-4, math.MaxInt)}
	want := slices.Concat(carries...)
	for name, tell := range map[string]func(s *sched.Sched) []api.Range{
		"Close": func(s *sched.Sched) []api.Range { return s.Close(4) },
		"Late":  func(s *sched.Sched) []api.Range { return s.Late(4, 50, 0) },
		"Got":   func(s *sched.Sched) []api.Range { l, _ := s.Got(4, 200, nil, 0); return l },
	} {
		s := sched.New(api.Fastest)
		s.Open(4)
		for i, l := range carries {
			s.Sent(4, 10*i, 50-i, l) // the last one was sent first, by the moments: these don't matter
		}
		are(t, name, tell(s), want)
		are(t, name+", again", tell(s), nil)
	}
}

// P21.2: which counters may be sent: 0 to MaxCounter, each above all that were sent.
func TestSent(t *testing.T) {
	const last = 1<<48 - 1
	wrong := []int{math.MinInt, math.MinInt + 1, -1 << 48, -1, last + 1, last + 2, 1 << 62, math.MaxInt - 1, math.MaxInt}
	for _, c := range []int{0, 1, 2, 1000, last - 1, last} {
		s := under(1)
		for _, x := range wrong {
			s.Sent(1, x, 10, one(1))
			is(t, s, 1, 4, 0)
		}
		s.Sent(1, c, 10, one(c))
		is(t, s, 1, 4, 1)
		for _, x := range append(wrong, 0, 1, c-1, c, c) {
			if x <= c || x > last {
				s.Sent(1, x, 10, one(1))
				is(t, s, 1, 4, 1)
			}
		}
		if c < last {
			s.Sent(1, c+1, 10, one(c+1))
			is(t, s, 1, 4, 2)
			are(t, "Close", s.Close(1), ones(c, c+1))
		} else {
			are(t, "Close", s.Close(1), one(c))
		}
	}
}

// P21.2: a counter that is not above the last one's is refused, also when none, or not the greatest, is under way any more.
func TestSentBefore(t *testing.T) {
	for name, call := range map[string]func(s *sched.Sched){
		"all came":              func(s *sched.Sched) { s.Got(1, 8, rows(0, 9), 20) },
		"the greatest came":     func(s *sched.Sched) { s.Got(1, 8, nil, 20) },
		"all are late":          func(s *sched.Sched) { s.Late(1, 20, 0) },
		"all are lost":          func(s *sched.Sched) { s.Got(1, 50, nil, 20) },
		"none came":             func(s *sched.Sched) { s.Got(1, 1, nil, 20) },
		"one that was not sent": func(s *sched.Sched) { s.Sent(1, 3, 11, one(3)) },
	} {
		s := under(1, 2, 4, 8)
		call(s)
		many := s.Under(1)
		for _, c := range counted(-1, 9) {
			s.Sent(1, c, 30, one(c))
			if s.Under(1) != many {
				t.Errorf("%s: %d is sent again", name, c)
			}
		}
		s.Sent(1, 9, 30, one(9))
		if s.Under(1) != many+1 {
			t.Errorf("%s: 9 is not sent", name)
		}
		s.Close(1)
		s.Open(1)
		s.Sent(1, 2, 30, one(2))
		s.Sent(1, 2, 30, one(2))
		are(t, name, s.Close(1), one(2))
	}
}

// P21.2: a refused counter is not one that was sent: those above the last one that was may follow.
func TestRefusedIsNotSent(t *testing.T) {
	s := under(1, 5)
	for _, c := range []int{api.MaxCounter + 1, math.MaxInt, 3, -1} {
		s.Sent(1, c, 0, one(c))
	}
	s.Sent(2, 90, 0, one(90)) // a path that is not open
	s.Open(2)
	s.Sent(2, 6, 0, one(66))
	s.Sent(1, 6, 0, one(6))
	are(t, "Close", s.Close(1), ones(5, 6))
	are(t, "Close", s.Close(2), one(66))
}

// P21.2: the window holds nobody from sending: Pick alone goes by it.
func TestSentBeyondTheWindow(t *testing.T) {
	s := under(1, counted(0, 100)...)
	is(t, s, 1, 4, 100)
	picksNone(t, s, []int{1}, nil)
	gets(t, s, 1, 99, rows(0, 96), 10, one(96), 0)
	is(t, s, 1, 16, 2)
}

// carriers are lists of ranges of all kinds.
func carriers() [][]api.Range {
	return [][]api.Range{nil, {}, rows(3, 9), rows(0, 0), rows(7, 7), rows(9, 3), rows(-5, -1), rows(math.MinInt, math.MaxInt),
		rows(math.MaxInt, math.MinInt), rows(1, 2, 3, 4), rows(3, 4, 1, 2), rows(1, 5, 2, 3), rows(4, 4, 4, 4), rows(1, 2, 1, 2),
		rows(0, 1, 1, 2, 2, 3, 3, 4, 4, 5, 5, 6, 6, 7, 7, 8, 8, 9)}
}

// P21.2, P21.3, R7: what is carried is told as it was handed in, whatever becomes of the caller's ranges; and what was told stays as it
// is, whatever follows, as does what is there when the caller writes over it.
func TestCarriesAreTheCallers(t *testing.T) {
	for name, tell := range map[string]func(s *sched.Sched) []api.Range{
		"Close": func(s *sched.Sched) []api.Range { return s.Close(0) },
		"Late":  func(s *sched.Sched) []api.Range { return s.Late(0, 10, 0) },
		"Got":   func(s *sched.Sched) []api.Range { l, _ := s.Got(0, 5, nil, 10); return l },
	} {
		for _, first := range carriers() {
			for _, second := range carriers() {
				s := sched.New(api.Fastest)
				s.Open(0)
				mine, other := slices.Clone(first), slices.Clone(second)
				s.Sent(0, 1, 10, mine)
				sample.Fill(mine, rows(-1, 1)[0])
				s.Sent(0, 2, 10, other)
				s.Sent(0, 7, 11, first) // this one stays behind
				sample.Fill(other, rows(-2, 2)[0])
				twin := s.Clone()
				want := slices.Concat(first, second)
				if name == "Close" {
					want = slices.Concat(first, second, first)
				}
				got := tell(s)
				are(t, name, got, want)
				kept := slices.Clone(got)
				sample.Fill(tell(twin), rows(-3, 3)[0])
				s.Open(0)
				s.Sent(0, 8, 0, rows(70, 80))
				s.Close(0)
				are(t, name+", later", got, kept)
				sample.Fill(got, rows(-4, 4)[0])
				if name != "Close" {
					are(t, name+", then Close", twin.Close(0), first)
				}
			}
		}
	}
}

// P21.3: Got with a top that is under way and one that is not: never sent, come already, lost already.
func TestGotTop(t *testing.T) {
	s := under(2, 1, 2, 3, 4, 6)
	gets(t, s, 2, 0, nil, 20, nil, -1)
	is(t, s, 2, 4, 5)
	gets(t, s, 2, 2, nil, 20, nil, 10)
	is(t, s, 2, 5, 4)
	gets(t, s, 2, 2, nil, 30, nil, -1)
	is(t, s, 2, 5, 4)
	gets(t, s, 2, 5, nil, 30, one(1), -1) // it was never sent, and yet 1 is far behind it
	is(t, s, 2, 2, 3)
	gets(t, s, 2, 1, nil, 30, nil, -1)
	is(t, s, 2, 2, 3)
	gets(t, s, 2, 6, nil, 31, one(3), 21)
	is(t, s, 2, 2, 1)
	gets(t, s, 2, 100, nil, 31, one(4), -1)
	is(t, s, 2, 2, 0)
}

// P21.3: which records the ranges hold, and which are lost then, of those with the counters 10 to 19, and of 30 behind them.
func TestGotRanges(t *testing.T) {
	const least, most = math.MinInt, math.MaxInt
	for _, x := range []struct {
		l    []api.Range
		came []int
	}{
		{nil, nil}, {rows(), nil}, {rows(12, 13), []int{12}}, {rows(12, 12), nil}, {rows(13, 12), nil}, {rows(19, 10), nil},
		{rows(most, least), nil}, {rows(0, 10), nil}, {rows(20, 30), nil}, {rows(9, 10, 20, 21), nil}, {rows(9, 11), []int{10}},
		{rows(19, 30), []int{19}}, {rows(10, 20), counted(10, 20)}, {rows(least, most), append(counted(10, 20), 30)},
		{rows(least, 12), []int{10, 11}}, {rows(18, most), []int{18, 19, 30}}, {rows(least, least), nil}, {rows(most, most), nil},
		{rows(least, 10), nil}, {rows(31, most), nil}, {rows(30, 31), []int{30}}, {rows(12, 15, 14, 17), counted(12, 17)},
		{rows(14, 17, 12, 15), counted(12, 17)}, {rows(12, 17, 13, 14), counted(12, 17)}, {rows(13, 14, 12, 17), counted(12, 17)},
		{rows(12, 14, 14, 16), counted(12, 16)}, {rows(17, 18, 12, 13), []int{12, 17}}, {rows(12, 13, 12, 13), []int{12}},
		{rows(15, 12, 13, 14), []int{13}}, {rows(-5, -1, 11, 12), []int{11}}, {rows(10, 11, 12, 13, 14, 15, 16, 17, 18, 19, 20, 21,
			22, 23, 24, 25, 26, 27, 28, 29, 11, 12), []int{10, 11, 12, 14, 16, 18}},
	} {
		for _, top := range []int{least, -1, 0, 9, 12, 13, 16, 19, 21, 22, 23, 30, 32, 33, 34, 1 << 48, most - 1, most} {
			s := under(5, append(counted(10, 20), 30)...)
			came := slices.Clone(x.came)
			ticks := -1
			if (top >= 10 && top < 20) || top == 30 {
				ticks = 4
				if !slices.Contains(came, top) {
					came = append(came, top)
				}
			}
			var lost []int
			for _, c := range append(counted(10, 20), 30) {
				if !slices.Contains(came, c) && top >= c+3 {
					lost = append(lost, c)
				}
			}
			window := 4 + len(came)
			if len(lost) > 0 {
				window /= 2
			}
			gets(t, s, 5, top, x.l, 14, ones(lost...), ticks)
			is(t, s, 5, window, 11-len(came)-len(lost))
		}
	}
}

// P21.3: of what is handed in neither the ranges nor the room behind them are changed, and they are not kept.
func TestGotLeavesTheRanges(t *testing.T) {
	p := newPair(t, api.Fastest).open(0).sends(0, counted(0, 12)...)
	for _, l := range carriers() {
		c := p.clone()
		c.got(0, 7, l, 5)
		c.look()
	}
}

// P21.3: how many ticks it was: of a record's moment and of now, each of them below 0, at MaxClock and above it.
func TestTicks(t *testing.T) {
	const end = api.MaxClock
	for _, sent := range []struct{ now, at int }{{math.MinInt, 0}, {-1, 0}, {0, 0}, {1, 1}, {10, 10}, {end - 1, end - 1}, {end, end},
		{end + 1, end}, {1 << 62, end}, {math.MaxInt, end}} {
		for _, got := range []struct{ now, at int }{{math.MinInt, 0}, {math.MinInt + 1, 0}, {-end, 0}, {-1, 0}, {0, 0}, {1, 1}, {9, 9},
			{10, 10}, {11, 11}, {25, 25}, {end - 2, end - 2}, {end - 1, end - 1}, {end, end}, {end + 1, end}, {math.MaxInt, end}} {
			s := sched.New(api.Turns)
			s.Open(0)
			s.Sent(0, 4, 7, nil)
			s.Sent(0, 5, sent.now, nil)
			s.Sent(0, 6, 3, nil)
			gets(t, s, 0, 5, rows(4, 7), got.now, nil, max(0, got.at-sent.at))
			is(t, s, 0, 7, 0)
		}
	}
}

// P21.3: ticks are those of top alone, not of others that came with it.
func TestTicksOfTop(t *testing.T) {
	s := sched.New(api.Fastest)
	s.Open(1)
	for c := range 8 {
		s.Sent(1, c, 100*c, nil)
	}
	gets(t, s, 1, 9, rows(0, 3), 1000, nil, -1) // 3 to 6 are lost with it
	gets(t, s, 1, 7, rows(0, 20), 1000, nil, 300)
	is(t, s, 1, 4, 0)
}

// P21.3: the window grows by each record that came, to 32 and not above.
func TestWindowGrows(t *testing.T) {
	for from := 2; from <= 32; from++ {
		for many := range 40 {
			p := wide(t, api.Fastest, 1, from)
			for c := range many {
				p.s.Sent(1, 1000+c, 0, nil)
			}
			gets(t, p.s, 1, 0, rows(1000, 1000+many), 0, nil, -1)
			is(t, p.s, 1, min(from+many, 32), 0)
		}
	}
}

// P21.3: the window is halved, rounded down, to 2 and not below, once for all that are lost at once, by Got and by Late alike.
func TestWindowHalves(t *testing.T) {
	for from := 2; from <= 32; from++ {
		for many := 1; many < 5; many++ {
			p := wide(t, api.Fastest, 1, from)
			for c := range many {
				p.s.Sent(1, 1000+c, 0, nil) // they carry nothing, and are lost all the same
			}
			late := p.s.Clone()
			are(t, "Late", late.Late(1, 0, 0), nil)
			gets(t, p.s, 1, 2000, nil, 0, nil, -1)
			for _, s := range []*sched.Sched{late, p.s} {
				is(t, s, 1, max(from/2, 2), 0)
			}
		}
	}
}

// P21.3: the window grows by what came ahead of being halved by what is lost: so at 32 it does not grow.
func TestWindowGrowsFirst(t *testing.T) {
	for from := 2; from <= 32; from++ {
		for many := 1; many < 40; many++ {
			p := wide(t, api.Turns, 1, from)
			p.s.Sent(1, 1000, 0, one(1000))
			for c := range many {
				p.s.Sent(1, 1010+c, 0, nil)
			}
			gets(t, p.s, 1, 1010, rows(1010, 1010+many), 7, one(1000), 7)
			is(t, p.s, 1, max(min(from+many, 32)/2, 2), 0)
		}
	}
}

// P21.3: records that are 2, 3 and 4 behind top.
func TestBehindTop(t *testing.T) {
	for _, top := range []int{-1, 0, 1, 2, 3, 4, 5, 100, api.MaxCounter, api.MaxCounter + 1, api.MaxCounter + 3, api.MaxCounter + 4} {
		var sent, lost, left []int
		for c := max(top-6, 0); c <= min(top, api.MaxCounter); c++ {
			sent = append(sent, c)
			switch {
			case c == top:
			case c <= top-3:
				lost = append(lost, c)
			default:
				left = append(left, c)
			}
		}
		s := under(0, sent...)
		ticks := -1
		if slices.Contains(sent, top) {
			ticks = 0
		}
		gets(t, s, 0, top, nil, 10, ones(lost...), ticks)
		are(t, "Close", s.Close(0), ones(left...))
	}
	for gap, want := range map[int][]api.Range{1: nil, 2: nil, 3: one(50), 4: one(50)} {
		s := under(0, 50, 50+gap)
		gets(t, s, 0, 50+gap, nil, 10, want, 0)
		if len(want) > 0 {
			is(t, s, 0, 2, 0)
		} else {
			is(t, s, 0, 5, 1)
		}
	}
}

// P21.3: what came and would be lost, since it is far behind top, is not told as lost, and does not halve the window.
func TestCameIsNotLost(t *testing.T) {
	s := under(0, counted(0, 10)...)
	gets(t, s, 0, 9, rows(0, 7), 10, nil, 0)
	is(t, s, 0, 12, 2)
	are(t, "Close", s.Close(0), ones(7, 8))
	s = under(0, counted(0, 10)...)
	gets(t, s, 0, 9, rows(0, 3, 4, 7), 10, one(3), 0)
	is(t, s, 0, 5, 2)
}

// P21.3: Late a tick ahead of a record's moment and the age, at it, and a tick behind it.
func TestLate(t *testing.T) {
	for _, at := range []int{0, 1, 10, 1000, api.MaxClock - 50} {
		for _, age := range []int{0, 1, 9, 10, 50} {
			for off, want := range map[int][]api.Range{-2: nil, -1: nil, 0: one(4), 1: one(4), 2: one(4)} {
				if at+age+off < 0 || at+age+off > api.MaxClock { // this is another moment
					continue
				}
				s := sched.New(api.Turns)
				s.Open(9)
				s.Sent(9, 4, at, one(4))
				s.Sent(9, 5, at+3, one(5))
				are(t, "Late", s.Late(9, at+age+off, age), want)
				is(t, s, 9, 4-2*len(want), 2-len(want))
				are(t, "Late, again", s.Late(9, at+age+off, age), nil)
				is(t, s, 9, 4-2*len(want), 2-len(want))
			}
		}
	}
}

// P21.3: Late with a moment and an age below 0, at MaxClock and above it.
func TestLateAtTheEnds(t *testing.T) {
	const end = api.MaxClock
	bounded := []struct{ n, is int }{{math.MinInt, 0}, {math.MinInt + 1, 0}, {-end, 0}, {-1, 0}, {0, 0}, {1, 1}, {500, 500},
		{end - 1, end - 1}, {end, end}, {end + 1, end}, {end + 500, end}, {1 << 62, end}, {math.MaxInt, end}}
	for _, sent := range bounded {
		for _, now := range bounded {
			for _, age := range bounded {
				s := sched.New(api.Fastest)
				s.Open(0)
				s.Sent(0, 0, sent.n, one(0))
				if sent.is <= now.is-age.is {
					are(t, "Late", s.Late(0, now.n, age.n), one(0))
					is(t, s, 0, 2, 0)
				} else {
					are(t, "Late", s.Late(0, now.n, age.n), nil)
					is(t, s, 0, 4, 1)
				}
			}
		}
	}
}

// P21.3: Late tells by moments, which need not rise with the counters; the others stay, and nothing grows.
func TestLateByMoments(t *testing.T) {
	s := sched.New(api.Fastest)
	s.Open(0)
	for c, now := range []int{50, 20, 90, 10, 70, 20} {
		s.Sent(0, c, now, one(c))
	}
	are(t, "Late", s.Late(0, 29, 20), nil)
	is(t, s, 0, 4, 6)
	are(t, "Late", s.Late(0, 40, 20), ones(1, 3, 5))
	is(t, s, 0, 2, 3)
	are(t, "Late", s.Late(0, 69, 0), one(0))
	are(t, "Late", s.Late(0, 1000, 0), ones(2, 4))
	is(t, s, 0, 2, 0)
	are(t, "Late", s.Late(0, math.MaxInt, 0), nil)
	is(t, s, 0, 2, 0)
}

// P21.3: what is done on one path leaves the others as they are, though their records have the same counters and moments.
func TestEachPathByItself(t *testing.T) {
	p := newPair(t, api.Fastest).open(1, 2)
	for _, id := range []int{1, 2} {
		p.sends(id, counted(0, 9)...)
	}
	p.got(1, 8, rows(2, 4), 150)
	is(t, p.s, 2, 4, 9)
	p.late(1, 1000, 0)
	is(t, p.s, 2, 4, 9)
	p.close(1)
	is(t, p.s, 2, 4, 9)
	p.look()
}
