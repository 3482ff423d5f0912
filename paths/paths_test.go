package paths_test

import (
	"math"
	"slices"
	"testing"

	"sheave/api"
	"sheave/paths"
	"sheave/sample"
)

// wrong are numbers that no path has.
func wrong() []int {
	return []int{math.MinInt, math.MinInt + 255, -256, -1, 256, 257, 511, 1 << 32, math.MaxInt}
}

// errs holds an error to the one that must be told.
func errs(t *testing.T, what string, got, want api.Errno) {
	t.Helper()
	if got != want {
		t.Errorf("%s: %d, not %d", what, got, want)
	}
}

// dues holds Due to the numbers that it must tell.
func dues(t *testing.T, x *paths.Table, now int, want ...int) {
	t.Helper()
	if got := x.Due(now); !slices.Equal(got, want) {
		t.Errorf("Due(%d): %d, not %d", now, got, want)
	}
}

// states holds numbers to a state.
func states(t *testing.T, x *paths.Table, want int, ids ...int) {
	t.Helper()
	for _, id := range ids {
		if got := x.State(id); got != want {
			t.Errorf("State(%d): %d, not %d", id, got, want)
		}
	}
}

// lives holds Live to the numbers that it must tell.
func lives(t *testing.T, x *paths.Table, want ...int) {
	t.Helper()
	if got := x.Live(); !slices.Equal(got, want) {
		t.Errorf("Live: %d, not %d", got, want)
	}
}

// rtts holds a number's RTT to what it must be.
func rtts(t *testing.T, x *paths.Table, id, want int) {
	t.Helper()
	if got := x.RTT(id); got != want {
		t.Errorf("RTT(%d): %d, not %d", id, got, want)
	}
}

// P20.1 to P20.6: the chapter's examples.
func TestExamples(t *testing.T) {
	x := paths.New()
	k, other := [8]byte{1, 2, 3}, [8]byte{1, 2, 4}
	errs(t, "Begin(0)", x.Begin(0), api.OK)
	errs(t, "Begin(0) again", x.Begin(0), api.ErrUsed)
	errs(t, "Begin(256)", x.Begin(256), api.ErrArg)
	errs(t, "Add(3)", x.Add(3, k, 10), api.OK)
	lives(t, x, 0)
	dues(t, x, 9)
	dues(t, x, 10, 3)
	dues(t, x, 209)
	dues(t, x, 210, 3)
	if x.Answer(3, other) || !x.Answer(3, k) {
		t.Error("Answer")
	}
	states(t, x, api.PathLive, 3)
	if x.Answer(3, k) {
		t.Error("Answer, twice")
	}
	x.Sample(3, 180)
	rtts(t, x, 3, 110)
	errs(t, "Remove(3)", x.Remove(3), api.OK)
	errs(t, "Remove(3) again", x.Remove(3), api.ErrPath)
	errs(t, "Add(3) again", x.Add(3, k, 10), api.ErrUsed)
}

// P20.1: a new table has nothing, whichever number is asked for.
func TestNew(t *testing.T) {
	x := paths.New()
	for _, id := range numbers() {
		states(t, x, api.PathNone, id)
		rtts(t, x, id, 0)
		if k, is := x.Token(id); is || k != [8]byte{} {
			t.Errorf("Token(%d): %x, %t", id, k, is)
		}
	}
	lives(t, x)
	dues(t, x, math.MaxInt)
}

// P20.1, P20.2, P20.4 to P20.6: a number that no path has: each call refuses it, and nothing is changed, also where the numbers at
// both ends are in use.
func TestWrongNumbers(t *testing.T) {
	for state := api.PathNone; state <= api.PathFailed; state++ {
		p := newPair(t)
		p.inState(0, state)
		if state == api.PathNew { // the other one would become due with it
			p.add(255, token(255), 0)
		} else {
			p.inState(255, state)
		}
		for _, id := range wrong() {
			errs(t, "Begin", p.begin(id), api.ErrArg)
			for _, now := range []int{math.MinInt, 0, math.MaxInt} {
				errs(t, "Add", p.add(id, token(id), now), api.ErrArg)
			}
			for _, k := range [][8]byte{{}, token(0), token(255), token(id)} {
				if p.answer(id, k) {
					t.Errorf("Answer(%d)", id)
				}
			}
			errs(t, "Remove", p.remove(id), api.ErrPath)
			for _, ticks := range []int{-1, 0, 800, math.MaxInt} {
				p.sample(id, ticks)
			}
			states(t, p.x, api.PathNone, id)
			rtts(t, p.x, id, 0)
			if k, is := p.x.Token(id); is || k != [8]byte{} {
				t.Errorf("Token(%d): %x, %t", id, k, is)
			}
			states(t, p.x, state, 0, 255)
		}
		p.look()
	}
}

// P20.1 to P20.7: each call of a number in each state: what is answered, and the state then.
func TestEachState(t *testing.T) {
	const none, tried, live, gone, failed = api.PathNone, api.PathNew, api.PathLive, api.PathGone, api.PathFailed
	k := [8]byte{5, 6, 7}
	answer := func(x *paths.Table, id int) any { return x.Answer(id, token(id)) }
	for name, c := range map[string]struct {
		call func(x *paths.Table, id int) any
		want [5]any
		then [5]int
	}{
		"Begin": {func(x *paths.Table, id int) any { return x.Begin(id) },
			[5]any{api.OK, api.ErrUsed, api.ErrUsed, api.ErrUsed, api.ErrUsed}, [5]int{live, tried, live, gone, failed}},
		"Add": {func(x *paths.Table, id int) any { return x.Add(id, k, 7) },
			[5]any{api.OK, api.ErrUsed, api.ErrUsed, api.ErrUsed, api.ErrUsed}, [5]int{tried, tried, live, gone, failed}},
		"Due": {func(x *paths.Table, id int) any { return slices.Contains(x.Due(0), id) },
			[5]any{false, true, false, false, false}, [5]int{none, tried, live, gone, failed}},
		"Answer": {answer, [5]any{false, true, false, false, false}, [5]int{none, live, live, gone, failed}},
		"Answer of noughts": {func(x *paths.Table, id int) any { return x.Answer(id, [8]byte{}) },
			[5]any{false, false, false, false, false}, [5]int{none, tried, live, gone, failed}},
		"Token": {func(x *paths.Table, id int) any { k, _ := x.Token(id); return k },
			[5]any{[8]byte{}, token(9), [8]byte{}, [8]byte{}, [8]byte{}}, [5]int{none, tried, live, gone, failed}},
		"Token's truth": {func(x *paths.Table, id int) any { _, is := x.Token(id); return is },
			[5]any{false, true, false, false, false}, [5]int{none, tried, live, gone, failed}},
		"Remove": {func(x *paths.Table, id int) any { return x.Remove(id) },
			[5]any{api.ErrPath, api.OK, api.OK, api.ErrPath, api.ErrPath}, [5]int{none, gone, gone, gone, failed}},
		"Live": {func(x *paths.Table, id int) any { return slices.Contains(x.Live(), id) },
			[5]any{false, false, true, false, false}, [5]int{none, tried, live, gone, failed}},
		"Sample": {func(x *paths.Table, id int) any { x.Sample(id, 180); return x.RTT(id) },
			[5]any{0, 100, 110, 100, 100}, [5]int{none, tried, live, gone, failed}},
		"RTT": {func(x *paths.Table, id int) any { return x.RTT(id) },
			[5]any{0, 100, 100, 100, 100}, [5]int{none, tried, live, gone, failed}},
		"Clone": {func(x *paths.Table, id int) any { return x.Clone().State(id) },
			[5]any{none, tried, live, gone, failed}, [5]int{none, tried, live, gone, failed}},
	} {
		for state := range 5 {
			for _, id := range []int{0, 9, 255} {
				p := newPair(t)
				p.inState(id, state)
				want := c.want[state]
				if want == token(9) {
					want = token(id)
				}
				if got := c.call(p.x, id); got != want {
					t.Errorf("%s, of the state %d: %v, not %v", name, state, got, want)
				}
				states(t, p.x, c.then[state], id)
			}
		}
	}
}

// P20.2, P20.6: what a number is like that was just taken into use, in both ways; each number may be.
func TestBeginAndAdd(t *testing.T) {
	for id := range 256 {
		x := paths.New()
		errs(t, "Begin", x.Begin(id), api.OK)
		states(t, x, api.PathLive, id)
		lives(t, x, id)
		rtts(t, x, id, 100)
		dues(t, x, math.MaxInt)
		x = paths.New()
		errs(t, "Add", x.Add(id, token(id), 50), api.OK)
		states(t, x, api.PathNew, id)
		lives(t, x)
		rtts(t, x, id, 100)
		if k, is := x.Token(id); !is || k != token(id) {
			t.Errorf("Token(%d): %x, %t", id, k, is)
		}
		dues(t, x, 49)
		dues(t, x, 50, id)
	}
}

// P20.2, P20.7: as long as there are fewer than 16 that are PathNew or PathLive, of both kinds or of one, there may be one more.
func TestMost(t *testing.T) {
	for _, every := range []int{1, 2, 3, 100} { // of so many one is live: all, half, a third, and the first alone
		p := newPair(t)
		for many := range 20 {
			want := api.OK
			if many >= 16 {
				want = api.ErrLong
			}
			for _, id := range []int{100 + many, 255} {
				errs(t, "Begin", p.clone().begin(id), want)
				errs(t, "Add", p.clone().add(id, token(1), 5), want)
			}
			if many%every == 0 {
				p.begin(many)
			} else {
				p.add(many, token(many), 0)
			}
		}
		if len(p.m.live)+len(p.m.tried) != 16 {
			t.Errorf("%d and %d", len(p.m.live), len(p.m.tried))
		}
		p.look()
	}
}

// P20.2, P20.3, P20.5: when one of 16 has gone, or failed, there may be another one, and not two; when one was answered, there may not.
func TestMostAgain(t *testing.T) {
	for name, x := range map[string]struct {
		call func(p *pair)
		more int
	}{
		"nothing":              {func(p *pair) {}, 0},
		"one live has gone":    {func(p *pair) { p.remove(4) }, 1},
		"one tried has gone":   {func(p *pair) { p.remove(5) }, 1},
		"one of each has gone": {func(p *pair) { p.remove(5); p.remove(0) }, 2},
		"none was there":       {func(p *pair) { p.remove(77) }, 0},
		"one was answered":     {func(p *pair) { p.answer(5, token(5)) }, 0},
		"one was not answered": {func(p *pair) { p.answer(5, token(6)) }, 0},
		"answered, and gone":   {func(p *pair) { p.answer(5, token(5)); p.remove(5) }, 1},
		"all that are tried were asked": {func(p *pair) {
			for range 4 {
				p.due(api.MaxClock / 2)
			}
		}, 0},
		"one has failed": {func(p *pair) {
			for range 5 { // the others, which are later, are asked beside it
				p.due(p.m.tried[1].due)
			}
		}, 1},
		"all that are tried have failed": {func(p *pair) {
			for now := range 10 {
				p.due(now * 5000)
			}
		}, 8},
	} {
		p := crowded(t, 16)
		x.call(p)
		for _, begins := range []bool{true, false} {
			p := p.clone()
			for many := range x.more + 3 {
				want := api.OK
				if many >= x.more {
					want = api.ErrLong
				}
				if begins {
					errs(t, name+": Begin", p.begin(100+many), want)
				} else {
					errs(t, name+": Add", p.add(100+many, token(7), 0), want)
				}
			}
		}
	}
}

// P20.2, R3: where several errors would be, the first that is named is told.
func TestFirstError(t *testing.T) {
	p := crowded(t, 13)
	for state, id := range []int{3: 70, 4: 71} {
		if id > 0 {
			p.inState(id, state)
		}
	}
	for id := 13; len(p.m.tried)+len(p.m.live) < 16; id++ {
		p.begin(id)
	}
	for _, id := range wrong() {
		errs(t, "Begin", p.begin(id), api.ErrArg)
		errs(t, "Add", p.add(id, token(1), -1), api.ErrArg)
	}
	states(t, p.x, api.PathGone, 70)
	states(t, p.x, api.PathFailed, 71)
	for _, id := range []int{0, 1, 12, 13, 70, 71} {
		errs(t, "Begin", p.begin(id), api.ErrUsed)
		errs(t, "Add", p.add(id, token(1), -1), api.ErrUsed)
	}
	for _, id := range []int{69, 72, 255} {
		errs(t, "Begin", p.begin(id), api.ErrLong)
		errs(t, "Add", p.add(id, token(1), -1), api.ErrLong)
	}
}

// P20.2, R2: an Add that is refused leaves the token, the tries and the moment as they were.
func TestRefusedAddChangesNothing(t *testing.T) {
	x := paths.New()
	x.Add(4, token(1), 100)
	dues(t, x, 100, 4)
	errs(t, "Add", x.Add(4, token(2), 0), api.ErrUsed)
	errs(t, "Begin", x.Begin(4), api.ErrUsed)
	if k, is := x.Token(4); !is || k != token(1) {
		t.Errorf("%x, %t", k, is)
	}
	dues(t, x, 299)
	dues(t, x, 300, 4)
	dues(t, x, 699)
	dues(t, x, 700, 4)
	x.Answer(4, token(1))
	x.Sample(4, 900)
	errs(t, "Begin", x.Begin(4), api.ErrUsed)
	rtts(t, x, 4, 200)
}

// P20.2, P20.3: moments at the clock's ends and beyond them, of Add and of Due: a moment below 0 is 0, one above MaxClock is that.
func TestMoments(t *testing.T) {
	const end = api.MaxClock
	for _, added := range []struct{ now, due int }{
		{math.MinInt, 0}, {math.MinInt + 1, 0}, {-end, 0}, {-1, 0}, {0, 0}, {1, 1}, {150, 150}, {end - 1, end - 1}, {end, end},
		{end + 1, end}, {1 << 62, end}, {math.MaxInt - 1, end}, {math.MaxInt, end},
	} {
		for _, asked := range []struct{ now, at int }{
			{math.MinInt, 0}, {math.MinInt + 1, 0}, {-end, 0}, {-1, 0}, {0, 0}, {1, 1}, {149, 149}, {150, 150}, {151, 151},
			{end - 2, end - 2}, {end - 1, end - 1}, {end, end}, {end + 1, end}, {1 << 62, end}, {math.MaxInt, end},
		} {
			x := paths.New()
			x.Add(6, token(6), added.now)
			if asked.at < added.due {
				dues(t, x, asked.now)
				dues(t, x, added.due, 6)
				continue
			}
			dues(t, x, asked.now, 6)
			dues(t, x, asked.now)
			dues(t, x, asked.at+199)
			if asked.at+200 <= end {
				dues(t, x, asked.at+200, 6)
			} else { // the moment at which it would be due never comes
				dues(t, x, math.MaxInt)
				states(t, x, api.PathNew, 6)
			}
		}
	}
}

// P20.3: the last moments of the clock: what is due at MaxClock is told there, what is due a tick behind it never is.
func TestDueAtTheEnd(t *testing.T) {
	const end = api.MaxClock
	for ahead, want := range map[int][]int{199: nil, 200: {6}, 201: {6}} {
		x := paths.New()
		x.Add(6, token(6), 0)
		dues(t, x, end-ahead, 6)
		for _, now := range []int{end, math.MaxInt, end + 1} {
			dues(t, x, now, want...)
			want = nil // it is asked once: the next time would be beyond the end
		}
		states(t, x, api.PathNew, 6)
		if !x.Answer(6, token(6)) {
			t.Errorf("%d ticks ahead of the end: Answer", ahead)
		}
	}
	x := paths.New()
	x.Add(6, token(6), 0)
	for _, ahead := range []int{3000, 2800, 2400, 1600} {
		dues(t, x, end-ahead, 6)
	}
	dues(t, x, end-1)
	states(t, x, api.PathNew, 6)
	dues(t, x, end)
	states(t, x, api.PathFailed, 6)
}

// P20.3: all four tries, each a tick ahead of its moment, at it, and at once again; at the fifth moment it has failed, and stays so.
func TestFourTries(t *testing.T) {
	for _, from := range []int{1, 2, 10, 12345, api.MaxClock - 3006, api.MaxClock - 3000} {
		for late := range 3 { // each is asked for so many ticks behind its moment
			x := paths.New()
			x.Add(200, token(3), from)
			now := from
			for _, wait := range []int{200, 400, 800, 1600} {
				dues(t, x, now-1)
				now += late
				dues(t, x, now, 200)
				dues(t, x, now)
				states(t, x, api.PathNew, 200)
				now += wait
			}
			if now+late > api.MaxClock {
				continue
			}
			dues(t, x, now-1)
			states(t, x, api.PathNew, 200)
			if !x.Clone().Answer(200, token(3)) {
				t.Error("Answer, a tick ahead of the end")
			}
			dues(t, x, now+late)
			states(t, x, api.PathFailed, 200)
			rtts(t, x, 200, 100)
			dues(t, x, math.MaxInt)
			states(t, x, api.PathFailed, 200)
		}
	}
}

// P20.3: the next moment is reckoned from the one at which it was asked for, not from that at which it was due.
func TestDueLate(t *testing.T) {
	x := paths.New()
	x.Add(1, token(1), 10)
	dues(t, x, 1000, 1)
	dues(t, x, 1199)
	dues(t, x, 1200, 1)
	dues(t, x, 1599)
	dues(t, x, 5000, 1)
	dues(t, x, 5799)
	dues(t, x, 5800, 1)
	dues(t, x, 7399)
	states(t, x, api.PathNew, 1)
	dues(t, x, 99999)
	states(t, x, api.PathFailed, 1)
}

// P20.3: several, by rising numbers whatever order they came in; those that are not due yet stay as they are.
func TestDueOfSeveral(t *testing.T) {
	x := paths.New()
	for _, p := range []struct{ id, at int }{{255, 30}, {9, 31}, {0, 30}, {17, 29}, {3, 0}, {100, 1000}} {
		errs(t, "Add", x.Add(p.id, token(p.id), p.at), api.OK)
	}
	x.Begin(4)
	dues(t, x, -5, 3)
	dues(t, x, 28)
	dues(t, x, 30, 0, 17, 255)
	dues(t, x, 30)
	dues(t, x, 31, 9)
	dues(t, x, 199)
	dues(t, x, 200, 3)
	dues(t, x, 229)
	dues(t, x, 230, 0, 17, 255)
	dues(t, x, 231, 9)
	dues(t, x, 999, 0, 3, 9, 17, 255)
	dues(t, x, 1000, 100)
	x.Remove(17)
	x.Answer(9, token(9))
	dues(t, x, 1199)
	dues(t, x, 1200, 100)
	dues(t, x, 1600, 100)
	dues(t, x, 1798)
	dues(t, x, 1799, 0, 3, 255)
	dues(t, x, 3398, 100)
	states(t, x, api.PathNew, 0, 3, 255)
	dues(t, x, 3399)
	states(t, x, api.PathFailed, 0, 3, 255)
	states(t, x, api.PathNew, 100)
	lives(t, x, 4, 9)
}

// P20.3: moments that go back: what is due then is due by that moment, and waits from it on.
func TestDueGoesBack(t *testing.T) {
	x := paths.New()
	x.Add(1, token(1), 500)
	x.Add(2, token(2), 100)
	dues(t, x, 1000, 1, 2)
	dues(t, x, 0)
	x.Add(3, token(3), 0)
	dues(t, x, 50, 3)
	dues(t, x, math.MinInt)
	dues(t, x, 249)
	dues(t, x, 250, 3)
	dues(t, x, 1200, 1, 2, 3)
	dues(t, x, 1199)
	dues(t, x, 1600, 1, 2)
	dues(t, x, 1200)
	dues(t, x, 2000, 3)
}

// P20.3, P20.6: how long a path waits hangs on its own RTT, which is the first one's as long as it is tried, whatever others took, and
// whatever was said of it.
func TestDueHangsOnItsOwnRTT(t *testing.T) {
	x := paths.New()
	x.Begin(0)
	x.Add(1, token(1), 0)
	x.Begin(2)
	for range 40 {
		x.Sample(0, 100000)
		x.Sample(1, 100000)
		x.Sample(2, 0)
	}
	rtts(t, x, 1, 100)
	dues(t, x, 0, 1)
	dues(t, x, 199)
	dues(t, x, 200, 1)
	x.Remove(0)
	x.Remove(2)
	x.Add(3, token(3), 200)
	rtts(t, x, 3, 100)
	dues(t, x, 200, 3)
	dues(t, x, 399)
	dues(t, x, 400, 3)
	dues(t, x, 599)
	dues(t, x, 600, 1)
}

// P20.4: the token alone is the answer: one that differs in a bit, wherever it is, changes nothing.
func TestAnswer(t *testing.T) {
	for _, k := range [][8]byte{{}, {7}, {7: 1}, {255, 255, 255, 255, 255, 255, 255, 255}, token(5)} {
		p := newPair(t)
		p.add(8, k, 40)
		p.add(9, token(9), 40)
		for _, asked := range []bool{false, true} {
			if asked {
				p.due(300)
			}
			for bit := range 64 {
				other := [8]byte(sample.Turned(k[:], bit))
				if p.answer(8, other) || p.answer(9, other) {
					t.Errorf("Answer of %x, not %x", other, k)
				}
				states(t, p.x, api.PathNew, 8)
			}
			if p.answer(8, token(9)) || p.answer(9, k) {
				t.Error("Answer of the other one's token")
			}
			c := p.clone()
			if !c.answer(8, k) || c.answer(8, k) {
				t.Errorf("Answer of %x", k)
			}
			states(t, c.x, api.PathLive, 8)
			states(t, c.x, api.PathNew, 9)
			lives(t, c.x, 8)
			rtts(t, c.x, 8, 100)
			if got, is := c.x.Token(8); is || got != [8]byte{} {
				t.Errorf("Token: %x, %t", got, is)
			}
			dues(t, c.x, 99999, 9)
		}
	}
}

// P20.4, P20.5: behind a failure, or Remove, the token is no answer any more, nor is it told.
func TestAnswerTooLate(t *testing.T) {
	for name, end := range map[string]func(p *pair){
		"failed":               func(p *pair) { p.remove(8); p.remove(9); p.inState(10, api.PathFailed) },
		"removed":              func(p *pair) { p.begin(10); p.remove(10) },
		"removed when new":     func(p *pair) { p.add(10, token(10), 0); p.remove(10) },
		"removed when asked":   func(p *pair) { p.add(10, token(10), 0); p.due(0); p.remove(10) },
		"answered and removed": func(p *pair) { p.add(10, token(10), 0); p.answer(10, token(10)); p.remove(10) },
		"begun":                func(p *pair) { p.begin(10) },
		"never there":          func(p *pair) {},
	} {
		p := newPair(t)
		end(p)
		state := p.x.State(10)
		for _, k := range [][8]byte{token(10), {}} {
			if p.answer(10, k) {
				t.Errorf("%s: Answer", name)
			}
		}
		if got, is := p.x.Token(10); is || got != [8]byte{} {
			t.Errorf("%s: Token: %x, %t", name, got, is)
		}
		states(t, p.x, state, 10)
	}
}

// P20.4: a token of noughts is one too.
func TestTokenOfNoughts(t *testing.T) {
	x := paths.New()
	x.Add(1, [8]byte{}, 0)
	if k, is := x.Token(1); !is || k != [8]byte{} {
		t.Errorf("%x, %t", k, is)
	}
	if x.Answer(2, [8]byte{}) || x.Answer(1, [8]byte{7: 1}) || !x.Answer(1, [8]byte{}) {
		t.Error("Answer")
	}
}

// P20.4: several may have the same token: each is answered by its number.
func TestSameToken(t *testing.T) {
	x := paths.New()
	for id := range 3 {
		x.Add(id, token(0), 0)
	}
	if !x.Answer(1, token(0)) {
		t.Error("Answer")
	}
	states(t, x, api.PathNew, 0, 2)
	states(t, x, api.PathLive, 1)
}

// P20.5, P20.6: what Remove leaves: the state, and the RTT; it is neither live nor due.
func TestRemove(t *testing.T) {
	x := paths.New()
	x.Begin(1)
	x.Sample(1, 900)
	x.Add(2, token(2), 0)
	x.Begin(3)
	errs(t, "Remove(1)", x.Remove(1), api.OK)
	errs(t, "Remove(2)", x.Remove(2), api.OK)
	states(t, x, api.PathGone, 1, 2)
	states(t, x, api.PathLive, 3)
	rtts(t, x, 1, 200)
	rtts(t, x, 2, 100)
	lives(t, x, 3)
	dues(t, x, math.MaxInt)
	x.Sample(1, 0)
	rtts(t, x, 1, 200)
	for range 2 {
		for _, id := range append(wrong(), 1, 2, 0, 4, 255) {
			errs(t, "Remove", x.Remove(id), api.ErrPath)
		}
	}
}

// P20.6: one sample of each kind, with an RTT of 100, of 1 and of the greatest that there is.
func TestSample(t *testing.T) {
	const end = api.MaxClock
	for _, x := range []struct{ ticks, hundred, one, most int }{
		{math.MinInt, 100, 1, end - 7}, {-1 << 62, 100, 1, end - 7}, {-1, 100, 1, end - 7}, {0, 87, 1, 962072674297}, {1, 87, 1, 962072674298},
		{3, 87, 1, 962072674298}, {4, 88, 1, 962072674298}, {7, 88, 1, 962072674298}, {8, 88, 1, 962072674298}, {9, 88, 2, 962072674299},
		{99, 99, 13, 962072674310}, {100, 100, 13, 962072674310}, {107, 100, 14, 962072674311}, {108, 101, 14, 962072674311},
		{180, 110, 23, 962072674320}, {end - 1, 137438953559, 137438953472, end - 7}, {end, 137438953559, 137438953472, end - 7},
		{end + 1, 137438953559, 137438953472, end - 7}, {1 << 62, 137438953559, 137438953472, end - 7},
		{math.MaxInt, 137438953559, 137438953472, end - 7},
	} {
		p := open(t, 0, 5, 255)
		for range 60 {
			p.sample(0, 0)
		}
		for range 250 {
			p.x.Sample(255, end)
			p.m.sample(255, end)
		}
		for id, want := range map[int]int{0: x.one, 5: x.hundred, 255: x.most} {
			p.sample(id, x.ticks)
			rtts(t, p.x, id, want)
		}
	}
}

// P20.6: with samples of 0 the RTT falls to 1, and stays; with great ones it rises; with such as itself it stays.
func TestSamples(t *testing.T) {
	x := paths.New()
	x.Begin(7)
	for _, want := range []int{87, 76, 66, 57, 49, 42, 36, 31, 27, 23, 20, 17, 14, 12, 10, 8, 7, 6, 5, 4, 3, 2, 1, 1, 1, 1} {
		x.Sample(7, 0)
		rtts(t, x, 7, want)
	}
	for _, want := range []int{1, 1, 1} {
		x.Sample(7, 8)
		rtts(t, x, 7, want)
	}
	for _, want := range []int{125, 234, 329, 412, 485, 549, 605, 654} {
		x.Sample(7, 1000)
		rtts(t, x, 7, want)
	}
	for range 100 {
		x.Sample(7, 1000)
	}
	rtts(t, x, 7, 993) // a step more would be less than one: from here on it stays
	for range 9 {
		x.Sample(7, x.RTT(7))
		rtts(t, x, 7, 993)
	}
}

// P20.6: each number has an RTT of its own, and only one that is live is sampled.
func TestSampleOfEach(t *testing.T) {
	p := ofEach(t)
	p.begin(20)
	for state := range 5 {
		p.sample(state, 900)
		want := 100
		switch state {
		case api.PathNone:
			want = 0
		case api.PathLive:
			want = 200
		}
		rtts(t, p.x, state, want)
	}
	rtts(t, p.x, 20, 100)
	p.answer(api.PathNew, token(api.PathNew)) // what was said of it ahead of this is nothing
	rtts(t, p.x, api.PathNew, 100)
	p.sample(api.PathNew, 180)
	rtts(t, p.x, api.PathNew, 110)
	rtts(t, p.x, api.PathLive, 200)
}

// P20.1: none, one, and 16 that are live, in rising order whatever order they came in.
func TestLive(t *testing.T) {
	ids := []int{255, 0, 17, 3, 254, 100, 1, 63, 64, 128, 127, 200, 31, 2, 90, 15}
	x := paths.New()
	lives(t, x)
	for many, id := range ids {
		if id%3 == 0 {
			x.Add(id, token(id), 0)
			lives(t, x, slices.Sorted(slices.Values(ids[:many]))...)
			x.Answer(id, token(id))
		} else {
			x.Begin(id)
		}
		lives(t, x, slices.Sorted(slices.Values(ids[:many+1]))...)
	}
	errs(t, "Begin", x.Begin(50), api.ErrLong)
	for many, id := range ids {
		x.Remove(id)
		lives(t, x, slices.Sorted(slices.Values(ids[many+1:]))...)
	}
}
