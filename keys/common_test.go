package keys_test

import (
	"math"
	"slices"
	"testing"

	"sheave/api"
	"sheave/kdf"
	"sheave/keys"
	"sheave/sample"
)

const end = 1<<16 - 1 // the last epoch that there is

// roots are of noughts, of ones, and without a rule.
func roots() []api.Key {
	var l []api.Key
	for _, b := range sample.Kinds(32) {
		l = append(l, api.Key(b))
	}
	return append(l, api.Key{1}, api.Key{31: 128})
}

func drawn(seed uint64) api.Key { return api.Key(sample.Drawn(seed, 32)) }

// on is the secret so many epochs on.
func on(secret api.Key, many int) api.Key {
	for range many {
		secret = kdf.Later(secret)
	}
	return secret
}

// model forgets no secret, and tells what the chapter's words say of them.
type model struct {
	first, epoch int
	secrets      []api.Key // from first on
}

func (m *model) key(epoch int) (api.Key, api.Errno) {
	one := epoch == m.epoch || epoch == m.epoch-1
	if !one || epoch < 0 || epoch < m.first {
		return api.Key{}, api.ErrEpoch
	}
	return kdf.Of(m.secrets[epoch-m.first]), api.OK
}

func (m *model) next() (api.Key, api.Errno) {
	if m.epoch == end {
		return api.Key{}, api.ErrExhausted
	}
	return kdf.Of(kdf.Later(m.secrets[m.epoch-m.first])), api.OK
}

func (m *model) advance() api.Errno {
	if m.epoch == end {
		return api.ErrExhausted
	}
	m.secrets = append(m.secrets, kdf.Later(m.secrets[m.epoch-m.first]))
	m.epoch++
	return api.OK
}

// pair are keys, and the model that they must be like.
type pair struct {
	t *testing.T
	k *keys.Keys
	m *model
}

func newPair(t *testing.T, root api.Key) *pair {
	return &pair{t: t, k: keys.New(root), m: &model{secrets: []api.Key{root}}}
}

// pairAt is one that begins with an epoch that was named; epoch is what is to become of that.
func pairAt(t *testing.T, secret api.Key, named, epoch int) *pair {
	return &pair{t: t, k: keys.At(secret, named), m: &model{first: epoch, epoch: epoch, secrets: []api.Key{secret}}}
}

func (p *pair) clone() *pair {
	return &pair{t: p.t, k: p.k.Clone(), m: &model{first: p.m.first, epoch: p.m.epoch, secrets: slices.Clone(p.m.secrets)}}
}

// advance does it of both, without a look.
func (p *pair) advance() {
	p.t.Helper()
	if got, want := p.k.Advance(), p.m.advance(); got != want {
		p.t.Fatalf("Advance to %d: %d, not %d", p.m.epoch, got, want)
	}
}

// advances does it so many times, and looks at what is behind each one.
func (p *pair) advances(many int) *pair {
	p.t.Helper()
	for range many {
		p.advance()
		p.look()
	}
	return p
}

// look holds all that keys tell against the model, with epochs that differ from those that are there in one part alone.
func (p *pair) look() {
	p.t.Helper()
	p.glance()
	for _, far := range []int{4, 255, 256, 1 << 15, 1 << 16, 1<<16 - 1, 1 << 31, 1 << 32, 1<<32 - 1, 1 << 48, 1 << 62} {
		p.key(p.m.epoch - far)
		p.key(p.m.epoch + far)
	}
	for _, epoch := range edges() {
		p.key(epoch)
	}
	p.glance()
}

// glance asks for the epochs around alone: for long rows of steps.
func (p *pair) glance() {
	p.t.Helper()
	if got := p.k.Epoch(); got != p.m.epoch {
		p.t.Fatalf("Epoch: %d, not %d", got, p.m.epoch)
	}
	for epoch := p.m.epoch - 3; epoch <= p.m.epoch+3; epoch++ {
		p.key(epoch)
	}
	got, e := p.k.Next()
	if want, wrong := p.m.next(); got != want || e != wrong {
		p.t.Fatalf("Next in %d: %x, %d, not %x, %d", p.m.epoch, got, e, want, wrong)
	}
}

func (p *pair) key(epoch int) {
	p.t.Helper()
	got, e := p.k.Key(epoch)
	if want, wrong := p.m.key(epoch); got != want || e != wrong {
		p.t.Fatalf("Key(%d) in %d: %x, %d, not %x, %d", epoch, p.m.epoch, got, e, want, wrong)
	}
}

// edges are epochs that are the first or the last of a kind, or nearly.
func edges() []int {
	return []int{math.MinInt, math.MinInt + 1, math.MinInt + end, math.MinInt + end + 1, -1 << 32, -1 << 16, -end, -2, -1, 0, 1, 2,
		255, 256, end - 2, end - 1, end, end + 1, end + 2, 1<<31 - 1, 1 << 31, 1 << 32, math.MaxInt - end, math.MaxInt - 1, math.MaxInt}
}

// named are epochs that At may be asked for, and those that it begins with.
var named = []struct{ asked, epoch int }{
	{math.MinInt, 0}, {math.MinInt + 1, 0}, {-1 << 32, 0}, {-end, 0}, {-5, 0}, {-1, 0},
	{0, 0}, {1, 1}, {2, 2}, {3, 3}, {255, 255}, {256, 256}, {32767, 32767}, {32768, 32768}, {end - 2, end - 2}, {end - 1, end - 1},
	{end, end}, {end + 1, end}, {end + 2, end}, {1 << 17, end}, {1 << 32, end}, {1<<32 + 7, end}, {1 << 40, end}, {math.MaxInt - 1, end}, {math.MaxInt, end},
}

// histories are keys of all kinds, by what they are.
func histories(t *testing.T) map[string]*pair {
	t.Helper()
	return map[string]*pair{
		"new":                  newPair(t, drawn(1)),
		"new, noughts":         newPair(t, api.Key{}),
		"new, one on":          newPair(t, drawn(2)).advances(1),
		"new, two on":          newPair(t, drawn(3)).advances(2),
		"new, 20 on":           newPair(t, drawn(4)).advances(20),
		"below 0":              pairAt(t, drawn(5), -9, 0),
		"below 0, one on":      pairAt(t, drawn(6), -9, 0).advances(1),
		"0":                    pairAt(t, drawn(7), 0, 0),
		"1":                    pairAt(t, drawn(8), 1, 1),
		"1, one on":            pairAt(t, drawn(9), 1, 1).advances(1),
		"300":                  pairAt(t, drawn(10), 300, 300),
		"300, two on":          pairAt(t, drawn(11), 300, 300).advances(2),
		"two ahead of the end": pairAt(t, drawn(12), end-2, end-2),
		"one ahead of the end": pairAt(t, drawn(13), end-1, end-1),
		"come to the end":      pairAt(t, drawn(14), end-1, end-1).advances(1),
		"end":                  pairAt(t, drawn(15), end, end),
		"beyond the end":       pairAt(t, drawn(16), end+9, end),
	}
}
