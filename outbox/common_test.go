package outbox_test

import (
	"bytes"
	"math"
	"slices"
	"testing"

	"sheave/api"
	"sheave/outbox"
	"sheave/sample"
)

const mostSize = 1 << 20

var rows, edges = sample.Rows, sample.Edges

// How far a byte is.
const (
	unsent = iota
	under  // it was sent, and nothing is known of it
	again  // it is to be sent again
	arrived
)

// model are all bytes that were ever written, and how far each of them is: nothing is let go of.
type model struct {
	size, limit int
	text        []byte
	states      []int
}

func newModel(size int) *model { return &model{size: min(max(size, 1), mostSize)} }

func (m *model) clone() *model {
	return &model{size: m.size, limit: m.limit, text: bytes.Clone(m.text), states: slices.Clone(m.states)}
}

// first is the least number whose state is one of these, or the number behind all.
func (m *model) first(states ...int) int {
	for n, s := range m.states {
		if slices.Contains(states, s) {
			return n
		}
	}
	return len(m.states)
}

func (m *model) base() int { return m.first(unsent, under, again) }
func (m *model) end() int  { return len(m.text) }
func (m *model) sent() int { return m.first(unsent) }

func (m *model) idle() bool { return m.base() == m.end() }

func (m *model) blocked() bool {
	return !slices.Contains(m.states, again) && m.end() > m.sent() && m.sent() >= m.limit
}

func (m *model) write(b []byte) int {
	many := 0
	for _, x := range b {
		if m.end()-m.base() < m.size {
			m.text, m.states = append(m.text, x), append(m.states, unsent)
			many++
		}
	}
	return many
}

func (m *model) allow(limit int) {
	if limit > m.limit {
		m.limit = limit
	}
}

func (m *model) next(most int) (api.Chunk, bool) {
	state := again
	if !slices.Contains(m.states, again) {
		state = unsent
	}
	c := api.Chunk{At: m.first(state)}
	for n := c.At; n < m.end() && m.states[n] == state && len(c.Bytes) < most; n++ {
		if state == unsent && n >= m.limit {
			break
		}
		m.states[n] = under
		c.Bytes = append(c.Bytes, m.text[n])
	}
	if len(c.Bytes) == 0 {
		return api.Chunk{}, false
	}
	return c, true
}

func (m *model) lost(at, length int) {
	for n, s := range m.states {
		// Between two ints there may be more numbers than an int can tell, though not more than a uint can.
		if length > 0 && n >= at && uint(n-at) < uint(length) && s != unsent && s != arrived {
			m.states[n] = again
		}
	}
}

func (m *model) ack(at int, l []api.Range) {
	for n, s := range m.states {
		within := func(x api.Range) bool { return n >= x.From && n < x.To }
		if s != unsent && (n < at || slices.ContainsFunc(l, within)) {
			m.states[n] = arrived
		}
	}
}

// pair are an outbox, and the bytes that it must be like.
type pair struct {
	t *testing.T
	o *outbox.Outbox
	m *model
}

func newPair(t *testing.T, size int) *pair {
	return &pair{t: t, o: outbox.New(size), m: newModel(size)}
}

func (p *pair) clone() *pair { return &pair{t: p.t, o: p.o.Clone(), m: p.m.clone()} }

// write, allow, next, lost and ack do it of both, and hold the answers, and what is there then, against each other. What is handed
// in must stay as it was; it is spoilt then, and so is what is answered: who kept it is seen.
func (p *pair) write(b []byte) int {
	p.t.Helper()
	b = sample.Roomy(b)
	whole := sample.Whole(b)
	got, want := p.o.Write(b), p.m.write(b)
	if got != want {
		p.t.Fatalf("Write of %d bytes: %d, not %d", len(b), got, want)
	}
	if !bytes.Equal(sample.Whole(b), whole) {
		p.t.Fatalf("Write: %d bytes were changed", len(b))
	}
	sample.Spoil(b)
	p.glance()
	return got
}

func (p *pair) allow(limit int) {
	p.t.Helper()
	p.o.Allow(limit)
	p.m.allow(limit)
	p.glance()
}

func (p *pair) next(most int) (api.Chunk, bool) {
	p.t.Helper()
	got, is := p.o.Next(most)
	want, there := p.m.next(most)
	if is != there || got.At != want.At || !bytes.Equal(got.Bytes, want.Bytes) {
		p.t.Fatalf("%v: Next(%d): %d, %x, %t, not %d, %x, %t", p.m.states, most, got.At, got.Bytes, is, want.At, want.Bytes, there)
	}
	sample.Spoil(got.Bytes)
	p.glance()
	return want, there
}

func (p *pair) lost(at, length int) {
	p.t.Helper()
	p.o.Lost(at, length)
	p.m.lost(at, length)
	p.glance()
}

func (p *pair) ack(at int, l []api.Range) {
	p.t.Helper()
	full := append(slices.Clone(l), rows(0, math.MaxInt, 1, 1<<30)...)
	whole := slices.Clone(full)
	p.o.Ack(at, full[:len(l)])
	p.m.ack(at, l)
	if !slices.Equal(full, whole) {
		p.t.Fatalf("Ack(%d, %v): the ranges are %v", at, l, full)
	}
	for i := range full {
		full[i] = api.Range{From: i, To: math.MaxInt}
	}
	p.glance()
}

// glance holds what an outbox tells against the bytes.
func (p *pair) glance() {
	p.t.Helper()
	got := []int{p.o.Base(), p.o.End(), p.o.Sent()}
	if want := []int{p.m.base(), p.m.end(), p.m.sent()}; !slices.Equal(got, want) {
		p.t.Fatalf("%v: Base, End, Sent: %v, not %v", p.m.states, got, want)
	}
	if p.o.Idle() != p.m.idle() || p.o.Blocked() != p.m.blocked() {
		p.t.Fatalf("%v, limit %d: Idle %t, Blocked %t", p.m.states, p.m.limit, p.o.Idle(), p.o.Blocked())
	}
	if p.o.End()-p.o.Base() > p.m.size {
		p.t.Fatalf("%d bytes, where there is room for %d", p.o.End()-p.o.Base(), p.m.size)
	}
}

// drain takes all that is to be sent, in pieces.
func (p *pair) drain(most int) {
	p.t.Helper()
	for is := true; is; {
		_, is = p.next(most)
	}
}

// look holds all that can be seen of an outbox against the bytes, by clones: what is to be sent, what has arrived (since all else can
// be lost), and how much room there is.
func (p *pair) look() {
	p.t.Helper()
	p.glance()
	for _, most := range []int{1, 3, math.MaxInt} {
		p.clone().drain(most)
	}
	c := p.clone()
	c.lost(math.MinInt, math.MaxInt)
	c.lost(0, math.MaxInt)
	c.drain(math.MaxInt)
	c.allow(math.MaxInt)
	c.drain(math.MaxInt)
	c = p.clone()
	c.write(sample.Drawn(7, p.m.size+1))
	c.allow(math.MaxInt)
	c.drain(math.MaxInt)
	c.ack(c.m.end(), nil)
	if !c.o.Idle() {
		p.t.Fatalf("not all has arrived of %v", p.m.states)
	}
}

// placed is an outbox whose bytes are in these states: those ahead of the unsent ones that have arrived, are to be sent again, or are
// under way, from number from on.
func placed(t *testing.T, size, from int, states ...int) *pair {
	t.Helper()
	p := newPair(t, size)
	for p.m.base() < from {
		p.write(sample.Drawn(uint64(p.m.base()), min(size, from-p.m.base())))
		p.allow(p.m.end())
		p.drain(math.MaxInt)
		p.ack(p.m.end(), nil)
	}
	p.write(sample.Drawn(uint64(from+1), len(states)))
	for i, s := range states {
		if s != unsent {
			p.allow(from + i + 1)
		}
	}
	p.drain(math.MaxInt)
	for i, s := range states {
		switch s {
		case again:
			p.lost(from+i, 1)
		case arrived:
			p.ack(0, rows(from+i, from+i+1))
		}
	}
	if got := p.m.states[from:]; !slices.Equal(got, states) {
		t.Fatalf("%v, not %v", got, states)
	}
	return p
}

// histories are outboxes of all kinds, by what they are.
func histories(t *testing.T) map[string]*pair {
	t.Helper()
	l := map[string]*pair{
		"new":             newPair(t, 12),
		"declared":        {t: t, o: new(outbox.Outbox), m: newModel(0)},
		"of one byte":     placed(t, 1, 3, under),
		"written":         placed(t, 12, 0, unsent, unsent, unsent),
		"full":            placed(t, 3, 0, unsent, unsent, unsent),
		"sent":            placed(t, 12, 5, under, under, under),
		"in part":         placed(t, 12, 5, under, under, unsent, unsent),
		"lost":            placed(t, 5, 9, again, again, again, again),
		"of all kinds":    placed(t, 12, 20, under, again, again, arrived, arrived, under, again, arrived, unsent, unsent),
		"with holes":      placed(t, 12, 7, again, arrived, again, arrived, under, arrived, unsent),
		"ended":           placed(t, 4, 11),
		"arrived but one": placed(t, 6, 2, under, arrived, arrived, arrived, arrived, arrived),
	}
	l["allowed more"] = l["in part"].clone()
	l["allowed more"].allow(1000)
	l["allowed, and empty"] = l["ended"].clone()
	l["allowed, and empty"].allow(1000)
	return l
}
