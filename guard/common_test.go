package guard_test

import (
	"bytes"
	"encoding/binary"
	"fmt"
	"maps"
	"math"
	"slices"
	"testing"

	"sheave/aead"
	"sheave/api"
	"sheave/guard"
	"sheave/kdf"
	"sheave/packet"
	"sheave/sample"
)

const (
	end   = 1<<16 - 1 // the last epoch that there is
	last  = 1<<48 - 1 // the last counter
	sight = 1024
)

func drawn(seed uint64) api.Key { return api.Key(sample.Drawn(seed, 32)) }

func text(many int) []byte { return sample.Drawn(uint64(many)+7, many) }

// counted are 32 bytes, each one more than the one ahead of it.
func counted(from byte) api.Key {
	var k api.Key
	for i := range k {
		k[i] = from + byte(i)
	}
	return k
}

// headOf and nonceOf are a record's by the words of chapter 11.
func headOf(p api.Packet) []byte {
	b := []byte{byte(p.Kind), byte(p.Role), byte(p.Path)}
	b = binary.BigEndian.AppendUint16(b, uint16(p.Epoch))
	return append(b, binary.BigEndian.AppendUint64(nil, uint64(p.Counter))[2:]...)
}

func nonceOf(p api.Packet) api.Nonce {
	h := headOf(p)
	return api.Nonce(slices.Concat(h[2:5], make([]byte, 3), h[5:]))
}

// sealed are the bytes of a record by the chapter's words, sealed by a key.
func sealed(key api.Key, role, path, epoch, counter int, text []byte) []byte {
	p := api.Packet{Kind: api.PkRecord, Role: role, Path: path, Epoch: epoch, Counter: counter}
	return slices.Concat(headOf(p), aead.Seal(key, nonceOf(p), headOf(p), text))
}

// line are a direction's secrets, from the first epoch on: none is forgotten.
type line struct {
	first, epoch int
	secrets      []api.Key
}

func lineOf(secret api.Key, epoch int) *line {
	return &line{first: epoch, epoch: epoch, secrets: []api.Key{secret}}
}

func (l *line) clone() *line {
	return &line{first: l.first, epoch: l.epoch, secrets: slices.Clone(l.secrets)}
}

// key is that of an epoch; noughts of one ahead of the first, which nobody knows.
func (l *line) key(epoch int) api.Key {
	if epoch < l.first {
		return api.Key{}
	}
	for len(l.secrets) <= epoch-l.first {
		l.secrets = append(l.secrets, kdf.Later(l.secrets[len(l.secrets)-1]))
	}
	return kdf.Of(l.secrets[epoch-l.first])
}

// spot is a path in an epoch.
type spot struct{ epoch, path int }

// model forgets no secret, no counter and no record that came, and tells what the chapter's words say of them.
type model struct {
	role     int
	out, in  *line
	counters map[spot]int
	came     map[spot]map[int]bool
}

func (m *model) clone() *model {
	c := &model{role: m.role, out: m.out.clone(), in: m.in.clone(), counters: maps.Clone(m.counters), came: map[spot]map[int]bool{}}
	for s, l := range m.came {
		c.came[s] = maps.Clone(l)
	}
	return c
}

func isPath(path int) bool { return path >= 0 && path <= 255 }

func (m *model) counter(path int) int {
	if !isPath(path) {
		return 0
	}
	return m.counters[spot{m.out.epoch, path}]
}

func (m *model) seal(path int, text []byte) ([]byte, api.Errno) {
	if !isPath(path) {
		return nil, api.ErrArg
	}
	if len(text) > 256 {
		return nil, api.ErrLong
	}
	n := m.counter(path)
	if n > last {
		return nil, api.ErrExhausted
	}
	m.counters[spot{m.out.epoch, path}] = n + 1
	return sealed(m.out.key(m.out.epoch), m.role, path, m.out.epoch, n, text), api.OK
}

func (m *model) skip(path, n int) api.Errno {
	if !isPath(path) || n < m.counter(path) || n > last+1 {
		return api.ErrArg
	}
	m.counters[spot{m.out.epoch, path}] = n
	return api.OK
}

func (m *model) advance() api.Errno {
	if m.out.epoch == end {
		return api.ErrExhausted
	}
	m.out.epoch++
	return api.OK
}

// opened is what Open answers.
type opened struct {
	path, counter int
	text          string
}

func (o opened) String() string { return fmt.Sprintf("{%d, %d, %q}", o.path, o.counter, o.text) }

func (m *model) open(b []byte) (opened, api.Errno) {
	p, e := packet.Parse(b)
	if e != api.OK {
		return opened{}, e
	}
	if p.Kind != api.PkRecord || p.Role == m.role {
		return opened{}, api.ErrPacket
	}
	if p.Epoch < m.in.epoch-1 || p.Epoch > m.in.epoch+1 || p.Epoch < m.in.first {
		return opened{}, api.ErrEpoch
	}
	if m.isOld(spot{p.Epoch, p.Path}, p.Counter) {
		return opened{}, api.ErrOld
	}
	text, e := aead.Open(m.in.key(p.Epoch), nonceOf(p), headOf(p), p.Body)
	if e != api.OK {
		return opened{}, api.ErrForged
	}
	m.mark(spot{p.Epoch, p.Path}, p.Counter)
	m.in.epoch = max(m.in.epoch, p.Epoch)
	return opened{p.Path, p.Counter, string(text)}, api.OK
}

func (m *model) isOld(s spot, n int) bool { return m.came[s][n] || n <= m.top(s)-sight }

func (m *model) mark(s spot, n int) {
	if m.came[s] == nil {
		m.came[s] = map[int]bool{}
	}
	m.came[s][n] = true
}

func (m *model) top(s spot) int {
	top := -1
	for n := range m.came[s] {
		top = max(top, n)
	}
	return top
}

func (m *model) got(path int) (int, []api.Range) {
	s := spot{m.in.epoch, path}
	top := m.top(s)
	var l []api.Range
	for n := max(top-sight+1, 0); n < top; n++ {
		switch {
		case !m.came[s][n]:
		case len(l) > 0 && l[len(l)-1].To == n:
			l[len(l)-1].To++
		default:
			l = append(l, api.Range{From: n, To: n + 1})
		}
	}
	return top, l[max(len(l)-8, 0):]
}

// pair is a guard, and the model that it must be like.
type pair struct {
	t *testing.T
	g *guard.Guard
	m *model
}

func modelOf(role int, out, in *line) *model {
	return &model{role: role, out: out, in: in, counters: map[spot]int{}, came: map[spot]map[int]bool{}}
}

func newPair(t *testing.T, role int, out, in api.Key) *pair {
	return &pair{t, guard.New(role, out, in), modelOf(role, lineOf(out, 0), lineOf(in, 0))}
}

// pairAt is one that begins with epochs that may be.
func pairAt(t *testing.T, role int, out, in api.Key, mine, its int) *pair {
	return &pair{t, guard.At(role, out, in, mine, its), modelOf(role, lineOf(out, mine), lineOf(in, its))}
}

// ends are two that begin together.
func ends(t *testing.T, seed uint64) (a, b *pair) {
	x, y := drawn(seed), drawn(seed+1<<32)
	return newPair(t, 0, x, y), newPair(t, 1, y, x)
}

func (p *pair) clone() *pair { return &pair{p.t, p.g.Clone(), p.m.clone()} }

// seal does it of both.
func (p *pair) seal(path int, text []byte) []byte {
	p.t.Helper()
	got, e := p.g.Seal(path, text)
	if want, wrong := p.m.seal(path, text); e != wrong || !bytes.Equal(got, want) {
		p.t.Fatalf("Seal(%d, %d bytes): %x, %d, not %x, %d", path, len(text), got, e, want, wrong)
	}
	return got
}

// open does it of both, and tells the error.
func (p *pair) open(b []byte) api.Errno {
	p.t.Helper()
	path, counter, text, e := p.g.Open(b)
	want, wrong := p.m.open(b)
	if got := (opened{path, counter, string(text)}); e != wrong || got != want {
		p.t.Fatalf("Open of %x, in %d: %v, %d, not %v, %d", b, p.m.in.epoch, got, e, want, wrong)
	}
	return e
}

// opens is open of records in a row, each of which must answer the same.
func (p *pair) opens(want api.Errno, records ...[]byte) *pair {
	p.t.Helper()
	for _, b := range records {
		if got := p.open(b); got != want {
			p.t.Fatalf("Open of %x, in %d: %d, not %d", b, p.m.in.epoch, got, want)
		}
	}
	return p
}

// tries opens each record by a clone, so that nothing is changed.
func (p *pair) tries(want api.Errno, records ...[]byte) {
	p.t.Helper()
	for _, b := range records {
		p.clone().opens(want, b)
	}
}

func (p *pair) skip(path, n int) *pair {
	p.t.Helper()
	if got, want := p.g.Skip(path, n), p.m.skip(path, n); got != want {
		p.t.Fatalf("Skip(%d, %d): %d, not %d", path, n, got, want)
	}
	return p
}

func (p *pair) advance() *pair {
	p.t.Helper()
	if got, want := p.g.Advance(), p.m.advance(); got != want {
		p.t.Fatalf("Advance from %d: %d, not %d", p.m.out.epoch, got, want)
	}
	return p
}

// other is a record that the other end may have sealed, in any epoch, with any counter.
func (p *pair) other(path, epoch, counter int, text string) []byte {
	return sealed(p.m.in.key(epoch), 1-p.m.role, path, epoch, counter, []byte(text))
}

// others are some on one path, with these counters.
func (p *pair) others(path, epoch int, counters ...int) [][]byte {
	var l [][]byte
	for _, n := range counters {
		l = append(l, p.other(path, epoch, n, "some"))
	}
	return l
}

// noPaths are what is no path.
var noPaths = []int{math.MinInt, math.MinInt + 1, -1 << 32, -256, -255, -2, -1, 256, 257, 511, 512, 1 << 16, 1 << 32, 1<<32 + 3, math.MaxInt - 1, math.MaxInt}

// look holds what a guard tells against the model.
func (p *pair) look() {
	p.t.Helper()
	if out, in := p.g.Epochs(); out != p.m.out.epoch || in != p.m.in.epoch {
		p.t.Fatalf("Epochs: %d, %d, not %d, %d", out, in, p.m.out.epoch, p.m.in.epoch)
	}
	for path := range 256 {
		p.lookAt(path)
	}
	for _, path := range noPaths {
		p.lookAt(path)
	}
}

func (p *pair) lookAt(path int) {
	p.t.Helper()
	if got, want := p.g.Counter(path), p.m.counter(path); got != want {
		p.t.Fatalf("Counter(%d): %d, not %d", path, got, want)
	}
	top, l := p.g.Got(path)
	if want, ranges := p.m.got(path); top != want || !slices.Equal(l, ranges) {
		p.t.Fatalf("Got(%d): %d, %v, not %d, %v", path, top, l, want, ranges)
	}
}

// future looks at what is opened from now on: records around what came, of each epoch around, by clones.
func (p *pair) future() {
	p.t.Helper()
	for epoch := max(p.m.in.epoch-3, 0); epoch <= min(p.m.in.epoch+3, end); epoch++ {
		for _, path := range []int{0, 3, 255} {
			top := p.m.top(spot{epoch, path})
			for _, n := range []int{0, 1, 2, 3, top - sight - 1, top - sight, top - sight + 1, top - 2, top - 1, top, top + 1, top + 2, last} {
				if n >= 0 && n <= last {
					p.clone().open(p.other(path, epoch, n, "later"))
				}
			}
		}
	}
}

// histories are guards of all kinds, by what they are; all of the role 0.
func histories(t *testing.T) map[string]*pair {
	t.Helper()
	fresh := func(seed uint64) *pair { return newPair(t, 0, drawn(seed), drawn(seed+1000)) }
	at := func(seed uint64, mine, its int) *pair { return pairAt(t, 0, drawn(seed), drawn(seed+1000), mine, its) }
	l := map[string]*pair{
		"new":                    fresh(1),
		"sealed":                 fresh(2),
		"skipped":                fresh(3).skip(3, 70000).skip(0, last).skip(255, last+1),
		"advanced":               fresh(4).skip(3, 7).advance().skip(0, 5),
		"opened":                 fresh(5),
		"gone on":                fresh(6),
		"gone on twice":          fresh(7),
		"at 1":                   at(8, 1, 1),
		"at 300, gone on":        at(9, 300, 300),
		"one ahead of the end":   at(10, end-1, end-1),
		"come to the end":        at(11, end-1, end-1).advance(),
		"end":                    at(12, end, end),
		"mine 0, its 9":          at(13, 0, 9),
		"mine at the end, its 0": at(14, end, 0),
	}
	for _, path := range []int{0, 3, 3, 255, 3} {
		l["sealed"].seal(path, text(5))
	}
	p := l["opened"]
	p.opens(api.OK, p.others(3, 0, 2, 0, 7, 9, 5000, 4000, 4002)...).opens(api.OK, p.others(255, 0, last, last-2)...)
	for _, x := range []struct {
		name  string
		many  int
		epoch int
	}{{"gone on", 1, 0}, {"gone on twice", 2, 0}, {"at 300, gone on", 1, 300}, {"come to the end", 1, end - 1}} {
		p := l[x.name]
		for i := range x.many + 1 {
			p.opens(api.OK, p.others(3, x.epoch+i, 1, 0, 5)...).opens(api.OK, p.others(i, x.epoch+i, 2)...)
		}
	}
	for _, p := range l {
		p.look()
	}
	return l
}
