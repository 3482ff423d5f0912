package paths_test

import (
	"maps"
	"math"
	"slices"
	"testing"

	"sheave/api"
	"sheave/paths"
	"sheave/sample"
)

var edges = sample.Edges

// token is one of many, by a number. None is of noughts, which a path without a token has.
func token(n int) [8]byte { return [8]byte(sample.Drawn(uint64(n+1), 8)) }

// model is a table by rows of the numbers in each state: of those that are tried what they are asked with, and when.
type model struct {
	tried              map[int]trial
	live, gone, failed map[int]int // the RTT of each
}

type trial struct {
	token      [8]byte
	tries, due int
}

func newModel() *model {
	return &model{map[int]trial{}, map[int]int{}, map[int]int{}, map[int]int{}}
}

func (m *model) clone() *model {
	return &model{maps.Clone(m.tried), maps.Clone(m.live), maps.Clone(m.gone), maps.Clone(m.failed)}
}

func within(n int) int {
	if n < 0 {
		return 0
	}
	if n > 1<<40 {
		return 1 << 40
	}
	return n
}

func has[V any](m map[int]V, id int) bool {
	_, is := m[id]
	return is
}

func (m *model) state(id int) int {
	switch {
	case has(m.tried, id):
		return api.PathNew
	case has(m.live, id):
		return api.PathLive
	case has(m.gone, id):
		return api.PathGone
	case has(m.failed, id):
		return api.PathFailed
	}
	return api.PathNone
}

func (m *model) rtt(id int) int {
	if has(m.tried, id) {
		return 100
	}
	return m.live[id] + m.gone[id] + m.failed[id] // it is in one of them at most
}

// free tells whether a number may be used.
func (m *model) free(id int) api.Errno {
	if id < 0 || id > 255 {
		return api.ErrArg
	}
	if m.state(id) != api.PathNone {
		return api.ErrUsed
	}
	if len(m.tried)+len(m.live) == 16 {
		return api.ErrLong
	}
	return api.OK
}

func (m *model) begin(id int) api.Errno {
	e := m.free(id)
	if e == api.OK {
		m.live[id] = 100
	}
	return e
}

func (m *model) add(id int, token [8]byte, now int) api.Errno {
	e := m.free(id)
	if e == api.OK {
		m.tried[id] = trial{token: token, due: within(now)}
	}
	return e
}

func (m *model) due(now int) []int {
	now = within(now)
	var l []int
	for _, id := range slices.Sorted(maps.Keys(m.tried)) {
		x := m.tried[id]
		if x.due > now {
			continue
		}
		if x.tries == 4 {
			delete(m.tried, id)
			m.failed[id] = 100
			continue
		}
		wait := []int{200, 400, 800, 1600}[x.tries]
		m.tried[id] = trial{x.token, x.tries + 1, now + wait}
		l = append(l, id)
	}
	return l
}

func (m *model) answer(id int, token [8]byte) bool {
	x, is := m.tried[id]
	if !is || x.token != token {
		return false
	}
	delete(m.tried, id)
	m.live[id] = 100
	return true
}

func (m *model) remove(id int) api.Errno {
	if state := m.state(id); state != api.PathNew && state != api.PathLive {
		return api.ErrPath
	}
	m.gone[id] = m.rtt(id)
	delete(m.tried, id)
	delete(m.live, id)
	return api.OK
}

func (m *model) sample(id, ticks int) {
	if rtt, is := m.live[id]; is && ticks >= 0 {
		m.live[id] = max((rtt*7+within(ticks))/8, 1)
	}
}

// pair are a table, and what it must be like.
type pair struct {
	t *testing.T
	x *paths.Table
	m *model
}

func newPair(t *testing.T) *pair { return &pair{t, paths.New(), newModel()} }

func (p *pair) clone() *pair { return &pair{p.t, p.x.Clone(), p.m.clone()} }

// begin, add, due, answer, remove and sample do it of both, and hold the answers against each other, and then what is seen.
func (p *pair) begin(id int) api.Errno {
	p.t.Helper()
	got, want := p.x.Begin(id), p.m.begin(id)
	if got != want {
		p.t.Fatalf("Begin(%d): %d, not %d", id, got, want)
	}
	p.glance()
	return got
}

func (p *pair) add(id int, token [8]byte, now int) api.Errno {
	p.t.Helper()
	got, want := p.x.Add(id, token, now), p.m.add(id, token, now)
	if got != want {
		p.t.Fatalf("Add(%d, .., %d): %d, not %d", id, now, got, want)
	}
	p.glance()
	return got
}

func (p *pair) due(now int) []int {
	p.t.Helper()
	got, want := p.x.Due(now), p.m.due(now)
	if !slices.Equal(got, want) {
		p.t.Fatalf("Due(%d): %d, not %d", now, got, want)
	}
	spoil(got)
	p.glance()
	return want
}

func (p *pair) answer(id int, token [8]byte) bool {
	p.t.Helper()
	got, want := p.x.Answer(id, token), p.m.answer(id, token)
	if got != want {
		p.t.Fatalf("Answer(%d, %x): %t, not %t", id, token, got, want)
	}
	p.glance()
	return got
}

func (p *pair) remove(id int) api.Errno {
	p.t.Helper()
	got, want := p.x.Remove(id), p.m.remove(id)
	if got != want {
		p.t.Fatalf("Remove(%d): %d, not %d", id, got, want)
	}
	p.glance()
	return got
}

func (p *pair) sample(id, ticks int) {
	p.t.Helper()
	p.x.Sample(id, ticks)
	p.m.sample(id, ticks)
	p.glance()
}

// spoil makes each number another one, with the room behind the last: who still leans on them then is seen.
func spoil(l []int) { sample.Fill(l, -7) }

// numbers are all that a path may have, some beside them, and those at which sums may go wrong.
func numbers() []int {
	l := edges()
	for id := -3; id < 260; id++ {
		l = append(l, id)
	}
	return l
}

// glance holds what a table tells of each number to what it must.
func (p *pair) glance() {
	p.t.Helper()
	for _, id := range numbers() {
		if got, want := p.x.State(id), p.m.state(id); got != want {
			p.t.Fatalf("State(%d): %d, not %d", id, got, want)
		}
		if got, want := p.x.RTT(id), p.m.rtt(id); got != want {
			p.t.Fatalf("RTT(%d): %d, not %d", id, got, want)
		}
		want, is := p.m.tried[id]
		if got, told := p.x.Token(id); got != want.token || told != is {
			p.t.Fatalf("Token(%d): %x, %t, not %x, %t", id, got, told, want.token, is)
		}
	}
	l := p.x.Live()
	if want := slices.Sorted(maps.Keys(p.m.live)); !slices.Equal(l, want) {
		p.t.Fatalf("Live: %d, not %d", l, want)
	}
	spoil(l)
}

// look holds all that can be seen of a table to what it must be, by clones: which moments it waits for, one by one, until all that
// are tried have failed; and that each of them can be answered.
func (p *pair) look() {
	p.t.Helper()
	p.glance()
	c := p.clone()
	for len(c.m.tried) > 0 {
		next := math.MaxInt
		for _, x := range c.m.tried {
			next = min(next, x.due)
		}
		if next > api.MaxClock { // a moment that never comes
			c.due(math.MaxInt)
			break
		}
		c.due(next - 1)
		c.due(next)
	}
	c = p.clone()
	for id, x := range p.m.tried {
		c.answer(id, [8]byte{})
		c.answer(id, x.token)
	}
}

// open is a table in which the numbers are used by Begin.
func open(t *testing.T, ids ...int) *pair {
	t.Helper()
	p := newPair(t)
	for _, id := range ids {
		p.begin(id)
	}
	return p
}

// inState brings a number that was not used to a state.
func (p *pair) inState(id, state int) {
	p.t.Helper()
	switch state {
	case api.PathNew:
		p.add(id, token(id), 0)
	case api.PathLive:
		p.begin(id)
	case api.PathGone:
		p.begin(id)
		p.remove(id)
	case api.PathFailed:
		p.add(id, token(id), 0)
		for range 5 {
			p.due(p.m.tried[id].due)
		}
	}
	if got := p.x.State(id); got != state {
		p.t.Fatalf("State(%d): %d, not %d", id, got, state)
	}
}

// ofEach is a table with a number in each state: 0 is PathNone, 1 PathNew, and so on. The last is made first, since others would
// become due with it.
func ofEach(t *testing.T) *pair {
	t.Helper()
	p := newPair(t)
	for state := api.PathFailed; state >= api.PathNone; state-- {
		p.inState(state, state)
	}
	return p
}

// crowded is a table with so many numbers in use, from 0 on: every other one is tried.
func crowded(t *testing.T, many int) *pair {
	t.Helper()
	p := newPair(t)
	for id := range many {
		if id%2 == 0 {
			p.begin(id)
		} else {
			p.add(id, token(id), 10*id)
		}
	}
	return p
}

// histories are tables of all kinds, by what they are.
func histories(t *testing.T) map[string]*pair {
	t.Helper()
	h := map[string]*pair{
		"new":          newPair(t),
		"declared":     {t, new(paths.Table), newModel()},
		"one live":     open(t, 0),
		"one tried":    newPair(t),
		"of each":      ofEach(t),
		"crowded":      crowded(t, 16),
		"sampled":      open(t, 3, 4, 255),
		"being tried":  crowded(t, 12),
		"all of it":    newPair(t),
		"at its end":   newPair(t),
		"never due":    newPair(t),
		"asked thrice": newPair(t),
	}
	h["one tried"].add(255, token(1), 10)
	h["sampled"].sample(3, 500)
	h["sampled"].sample(255, 0)
	h["being tried"].due(50)
	h["being tried"].due(260)
	h["being tried"].answer(3, token(3))
	for id := range 256 {
		h["all of it"].begin(id)
		h["all of it"].remove(id)
	}
	h["at its end"].add(8, token(8), math.MaxInt)
	h["never due"].add(8, token(8), api.MaxClock-100)
	h["never due"].due(api.MaxClock)
	for _, now := range []int{0, 500, 1000} {
		h["asked thrice"].add(now/100, token(now), now)
		h["asked thrice"].due(now)
	}
	return h
}
