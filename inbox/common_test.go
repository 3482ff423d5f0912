package inbox_test

import (
	"bytes"
	"maps"
	"math"
	"slices"
	"strings"
	"testing"

	"sheave/api"
	"sheave/inbox"
	"sheave/sample"
)

const mostSize = 1 << 20

var rows, edges = sample.Rows, sample.Edges

// model are the bytes that are there and were not read, by their numbers.
type model struct {
	size, done int
	there      map[int]byte
}

func newModel(size int) *model {
	return &model{size: min(max(size, 1), mostSize), there: map[int]byte{}}
}

func (m *model) clone() *model { return &model{size: m.size, done: m.done, there: maps.Clone(m.there)} }

func (m *model) limit() int { return m.done + m.size }

func (m *model) has(n int) bool {
	_, is := m.there[n]
	return is
}

func (m *model) take(at int, b []byte) int {
	many := 0
	for i, x := range b {
		if at < m.limit()-i && at >= 0 && at+i >= m.done && !m.has(at+i) {
			m.there[at+i] = x
			many++
		}
	}
	return many
}

func (m *model) read(most int) []byte {
	var b []byte
	for len(b) < most && m.has(m.done) {
		b = append(b, m.there[m.done])
		delete(m.there, m.done)
		m.done++
	}
	return b
}

func (m *model) here() int {
	n := m.done
	for m.has(n) {
		n++
	}
	return n
}

func (m *model) beyond() []api.Range {
	var l []api.Range
	for n := m.here(); n < m.limit(); n++ {
		if !m.has(n) {
			continue
		}
		if !m.has(n - 1) {
			l = append(l, api.Range{From: n})
		}
		l[len(l)-1].To = n + 1
	}
	return l[:min(len(l), 8)]
}

// String shows which bytes are there, from Done on up to Limit.
func (m *model) String() string {
	var s strings.Builder
	for n := m.done; n < m.limit(); n++ {
		if m.has(n) {
			s.WriteByte('#')
		} else {
			s.WriteByte('.')
		}
	}
	return s.String()
}

// pair are an inbox, and the bytes that it must be like.
type pair struct {
	t *testing.T
	x *inbox.Inbox
	m *model
}

func newPair(t *testing.T, size int) *pair {
	return &pair{t: t, x: inbox.New(size), m: newModel(size)}
}

func (p *pair) clone() *pair { return &pair{t: p.t, x: p.x.Clone(), m: p.m.clone()} }

// take and read do it of both, and hold the answers, and what is there then, against each other. What is handed in must stay as it
// was; it is spoilt then, and so is what is answered: who kept it is seen.
func (p *pair) take(at int, b []byte) int {
	p.t.Helper()
	b = sample.Roomy(b)
	whole := sample.Whole(b)
	got, want := p.x.Take(at, b), p.m.take(at, b)
	if got != want {
		p.t.Fatalf("%d, then %v: Take(%d, %d bytes): %d, not %d", p.m.done, p.m, at, len(b), got, want)
	}
	if !bytes.Equal(sample.Whole(b), whole) {
		p.t.Fatalf("Take(%d): %d bytes were changed", at, len(b))
	}
	sample.Spoil(b)
	p.glance()
	return got
}

func (p *pair) read(most int) []byte {
	p.t.Helper()
	got, want := p.x.Read(most), p.m.read(most)
	if !bytes.Equal(got, want) {
		p.t.Fatalf("%d, then %v: Read(%d): %x, not %x", p.m.done, p.m, most, got, want)
	}
	sample.Spoil(got)
	p.glance()
	return want
}

// glance holds what an inbox tells against the bytes.
func (p *pair) glance() {
	p.t.Helper()
	got := []int{p.x.Done(), p.x.Here(), p.x.Limit(), p.x.Held()}
	if want := []int{p.m.done, p.m.here(), p.m.limit(), len(p.m.there)}; !slices.Equal(got, want) {
		p.t.Fatalf("%d, then %v: Done, Here, Limit, Held: %d, not %d", p.m.done, p.m, got, want)
	}
	l := p.x.Beyond()
	if want := p.m.beyond(); !slices.Equal(l, want) {
		p.t.Fatalf("%d, then %v: Beyond: %d, not %d", p.m.done, p.m, l, want)
	}
	for i := range l {
		l[i] = api.Range{From: -1, To: math.MaxInt}
	}
}

// look holds all that can be seen of an inbox against the bytes, by clones: what can be read, in pieces and at once, and, when all
// that was missing has come, which bytes were there ahead of it, and that they stayed.
func (p *pair) look() {
	p.t.Helper()
	p.glance()
	for _, most := range []int{1, 3} {
		c := p.clone()
		for len(c.read(most)) > 0 {
		}
	}
	c := p.clone()
	c.read(math.MaxInt)
	c.take(c.m.done, sample.Drawn(7, p.m.size+1))
	c.read(math.MaxInt)
	if c.x.Held() != 0 {
		p.t.Fatalf("%d, then %v: not all can be read", p.m.done, p.m)
	}
}

// placed is an inbox of a size whose Done is from, and of whose bytes from there on those are there that the text has a # for.
func placed(t *testing.T, size, from int, there string) *pair {
	t.Helper()
	p := newPair(t, size)
	for p.m.done < from {
		p.take(p.m.done, sample.Drawn(uint64(p.m.done), min(p.m.size, from-p.m.done)))
		p.read(math.MaxInt)
	}
	for i, is := range there {
		if is == '#' {
			p.take(from+i, sample.Drawn(uint64(from+i), 1))
		}
	}
	if want := there + strings.Repeat(".", p.m.size-len(there)); p.m.done != from || p.m.String() != want {
		t.Fatalf("%d, then %v", p.m.done, p.m)
	}
	return p
}

// histories are inboxes of all kinds, by what they are.
func histories(t *testing.T) map[string]*pair {
	t.Helper()
	return map[string]*pair{
		"new":              newPair(t, 12),
		"declared":         {t: t, x: new(inbox.Inbox), m: newModel(0)},
		"of one byte":      placed(t, 1, 3, "#"),
		"read":             placed(t, 12, 20, ""),
		"to be read":       placed(t, 12, 5, "####"),
		"full":             placed(t, 6, 9, "######"),
		"one missing":      placed(t, 6, 9, ".#####"),
		"one beyond":       placed(t, 8, 2, ".......#"),
		"with gaps":        placed(t, 12, 7, "##.#..###.#."),
		"with eight rows":  placed(t, 20, 3, ".#.#.#.#.#.#.##.#..."),
		"with nine rows":   placed(t, 20, 3, ".#.#.#.##.#.#.#.#.#."),
		"with many rows":   placed(t, 40, 33, "#.##.#.#.#.#.#.#.#.#.#.#.#.#.#.#.#.#.#.#"),
		"beyond the start": placed(t, 5, 0, "..##"),
	}
}
