package guard_test

import (
	"bytes"
	"math"
	"testing"

	"sheave/api"
	"sheave/guard"
	"sheave/sample"
)

// The chapter's examples.
func TestExamples(t *testing.T) {
	x, y := drawn(1), drawn(2)
	a, b := guard.New(0, x, y), guard.New(1, y, x)
	r, e := a.Seal(3, []byte("hi"))
	if e != api.OK || len(r) != 29 {
		t.Errorf("Seal: %x, %d", r, e)
	}
	if path, counter, text, e := b.Open(r); path != 3 || counter != 0 || string(text) != "hi" || e != api.OK {
		t.Errorf("Open: %d, %d, %q, %d", path, counter, text, e)
	}
	refuses := func(g *guard.Guard, b []byte, want api.Errno) {
		t.Helper()
		if path, counter, text, e := g.Open(b); path != 0 || counter != 0 || text != nil || e != want {
			t.Errorf("Open: %d, %d, %q, %d, not %d", path, counter, text, e, want)
		}
	}
	refuses(b, r, api.ErrOld)
	refuses(a, r, api.ErrPacket)
	for range 2 {
		if e := a.Advance(); e != api.OK {
			t.Errorf("Advance: %d", e)
		}
	}
	r, e = a.Seal(3, []byte("a"))
	if e != api.OK {
		t.Errorf("Seal: %d", e)
	}
	refuses(b, r, api.ErrEpoch)
	if e := a.Skip(3, 1<<48); e != api.OK {
		t.Errorf("Skip: %d", e)
	}
	if r, e := a.Seal(3, []byte("a")); e != api.ErrExhausted || r != nil {
		t.Errorf("Seal: %x, %d", r, e)
	}
}

// P16.1, P16.3: records, with the answers of Python's hmac, hashlib and cryptography, by the root 00 01 02 .. 1f.
func TestKnownRecords(t *testing.T) {
	t.Parallel()
	for _, x := range []struct {
		role, path, epoch, counter int
		text, want                 string
	}{
		{0, 3, 0, 0, "hi", "030003000000000000000010f03482c0b36d9129f7cd10c97279d40bc5"},
		{1, 0, 0, 1, "", "03010000000000000000018338512e1ccdd6821c20635b24533963"},
		{0, 255, 1, 0, "sheave", "0300ff0001000000000000a7c632a3ef02098f5e4b654a5720d03501685241fe28"},
		{1, 2, 2, last, "a", "0301020002ffffffffffff9bdd0414432b8f1c85d4a9b526d295b4df"},
		{0, 7, 258, 0x010203040506, "several paths",
			"030007010201020304050685c52b576aee9accab696655dff79a4c4943698df72236614cceb3df9d"},
		{1, 255, end, last, "the last", "0301ffffffffffffffffffb02a9a6620abfe209766ff64d801acf17cfc507debaf4d37"},
	} {
		a, b := guard.New(x.role, counted(0), api.Key{}), guard.New(1-x.role, api.Key{}, counted(0))
		for range x.epoch {
			a.Advance()
			r, _ := a.Seal(0, nil)
			b.Open(r)
		}
		if e := a.Skip(x.path, x.counter); e != api.OK {
			t.Errorf("%s: Skip: %d", x.want, e)
		}
		r, e := a.Seal(x.path, []byte(x.text))
		if e != api.OK || !bytes.Equal(r, sample.Hex(x.want)) {
			t.Errorf("Seal: %x, %d, not %s", r, e, x.want)
		}
		if path, counter, text, e := b.Open(r); path != x.path || counter != x.counter || string(text) != x.text || e != api.OK {
			t.Errorf("Open of %s: %d, %d, %q, %d", x.want, path, counter, text, e)
		}
	}
}

// The same by the secret 20 21 22 .. 3f of an epoch that At named.
func TestKnownRecordsAt(t *testing.T) {
	for epoch, want := range map[int]string{
		9:       "03000100090000000000008f6e2464e316f68fd5adbb00a30743edecb9",
		end - 1: "030001fffe000000000000e7d0e03e05f82756fd8c7e4da5e3c57eb417",
		end:     "030001ffff000000000000c655a42ad70106baed5b88f885a12aaae84b",
	} {
		r, e := guard.At(0, counted(32), drawn(1), epoch, 3).Seal(1, []byte("at"))
		if e != api.OK || !bytes.Equal(r, sample.Hex(want)) {
			t.Errorf("At %d: %x, %d", epoch, r, e)
		}
		path, counter, text, e := guard.At(1, drawn(1), counted(32), 3, epoch).Open(r)
		if path != 1 || counter != 0 || string(text) != "at" || e != api.OK {
			t.Errorf("At %d: %d, %d, %q, %d", epoch, path, counter, text, e)
		}
	}
}

// At the beginning both epochs are 0, all counters are, and nothing came.
func TestNew(t *testing.T) {
	for role := range 2 {
		for _, out := range sample.Kinds(32) {
			for _, in := range sample.Kinds(32) {
				p := newPair(t, role, api.Key(out), api.Key(in))
				p.look()
				p.future()
				p.seal(9, text(3))
				p.look()
			}
		}
	}
	g := guard.New(1, drawn(1), drawn(2))
	if out, in := g.Epochs(); out != 0 || in != 0 {
		t.Errorf("epochs %d and %d", out, in)
	}
	for path := -1; path <= 256; path++ {
		if top, l := g.Got(path); top != -1 || len(l) != 0 || g.Counter(path) != 0 {
			t.Errorf("path %d: %d, %v, counter %d", path, top, l, g.Counter(path))
		}
	}
}

// Of what is no role, 0 is taken: in what is sealed, and in what is opened.
func TestRoles(t *testing.T) {
	for _, x := range []struct{ asked, role int }{{0, 0}, {1, 1}, {2, 0}, {3, 0}, {-1, 0}, {-2, 0}, {255, 0}, {256, 0}, {257, 0},
		{1<<32 + 1, 0}, {math.MinInt, 0}, {math.MinInt + 1, 0}, {math.MaxInt, 0}} {
		for name, g := range map[string]*guard.Guard{
			"New": guard.New(x.asked, drawn(3), drawn(4)),
			"At":  guard.At(x.asked, drawn(3), drawn(4), 0, 0),
		} {
			r, e := g.Seal(5, []byte("role"))
			if e != api.OK || r[1] != byte(x.role) {
				t.Errorf("%s(%d): Seal: %x, %d", name, x.asked, r, e)
			}
			p := &pair{t, g, modelOf(x.role, lineOf(drawn(3), 0), lineOf(drawn(4), 0))}
			p.m.counters[spot{0, 5}] = 1
			p.look()
			p.seal(5, text(9))
			p.opens(api.ErrPacket, sealed(p.m.in.key(0), x.role, 5, 0, 0, text(9)))
			p.opens(api.OK, sealed(p.m.in.key(0), 1-x.role, 5, 0, 0, text(9)))
			c := p.clone()
			c.opens(api.ErrPacket, sealed(p.m.in.key(0), x.role, 5, 0, 1, text(9)))
			c.opens(api.OK, sealed(p.m.in.key(0), 1-x.role, 5, 0, 1, text(9)))
			c.seal(5, text(9))
		}
	}
}

// named are epochs that At may be asked for, and those that it begins with.
var named = []struct{ asked, epoch int }{
	{math.MinInt, 0}, {math.MinInt + 1, 0}, {-1 << 32, 0}, {-end, 0}, {-2, 0}, {-1, 0}, {0, 0}, {1, 1}, {2, 2}, {255, 255}, {256, 256},
	{end - 2, end - 2}, {end - 1, end - 1}, {end, end}, {end + 1, end}, {end + 2, end}, {1 << 32, end}, {1<<32 + 7, end}, {math.MaxInt - 1, end}, {math.MaxInt, end},
}

// At begins with the epochs that were named, or with the nearest ones, each direction with its own.
func TestAtEpochs(t *testing.T) {
	for _, x := range named {
		for _, y := range named {
			g := guard.At(1, drawn(5), drawn(6), x.asked, y.asked)
			if out, in := g.Epochs(); out != x.epoch || in != y.epoch {
				t.Errorf("At %d, %d: %d, %d", x.asked, y.asked, out, in)
			}
			p := &pair{t, g, modelOf(1, lineOf(drawn(5), x.epoch), lineOf(drawn(6), y.epoch))}
			p.seal(4, text(2))
			p.open(p.other(4, y.epoch, 3, "at"))
			p.advance()
			p.seal(4, text(2))
		}
	}
	for _, x := range named {
		p := pairAt(t, 0, drawn(7), drawn(8), x.epoch, 3)
		p.g = guard.At(0, drawn(7), drawn(8), x.asked, 3)
		p.look()
		p.seal(4, text(2))
		p.advance().advance().look()
		p.seal(4, text(2))
	}
}

// P16.3: the epoch ahead of the one that At named has no key: nothing of it is opened, by whatever key it was sealed, neither at
// first nor when in has gone on; the one that was named is, and so are those behind it.
func TestAtOpens(t *testing.T) {
	for _, x := range named {
		p := pairAt(t, 0, drawn(9), drawn(10), 0, x.epoch)
		p.g = guard.At(0, drawn(9), drawn(10), 0, x.asked)
		var ahead [][]byte
		if x.epoch > 0 {
			for _, key := range []api.Key{{}, p.m.in.key(x.epoch), drawn(10), p.m.in.key(x.epoch + 1)} {
				ahead = append(ahead, sealed(key, 1, 3, x.epoch-1, 0, text(4)), sealed(key, 1, 3, x.epoch-1, last, text(4)))
			}
		}
		p.opens(api.ErrEpoch, ahead...)
		p.look()
		p.future()
		p.opens(api.OK, p.others(3, x.epoch, 0, 2)...)
		p.opens(api.ErrEpoch, ahead...)
		if x.epoch == end {
			continue
		}
		p.clone().opens(api.OK, p.others(3, x.epoch+1, 0)...)
		p.opens(api.OK, p.others(4, x.epoch+1, 7)...)
		p.opens(api.ErrEpoch, ahead...)
		p.opens(api.ErrOld, p.others(3, x.epoch, 0, 2)...)
		p.opens(api.OK, p.others(3, x.epoch, 1, 3)...)
		p.look()
		p.future()
	}
}

// At with an epoch's secrets goes on as New does with the roots, but that of the epoch ahead nothing is opened.
func TestAtGoesOnAsNew(t *testing.T) {
	a, b := ends(t, 11)
	for epoch := range 20 {
		a.m.out.key(epoch)
		b.m.out.key(epoch)
		p := pairAt(t, 0, a.m.out.secrets[epoch], b.m.out.secrets[epoch], epoch, epoch)
		q := pairAt(t, 1, b.m.out.secrets[epoch], a.m.out.secrets[epoch], epoch, epoch)
		q.tries(api.OK, p.seal(2, text(5)), a.seal(2, text(5)))
		b.tries(api.OK, p.seal(2, text(6)))
		p.tries(api.OK, q.seal(2, text(7)), b.seal(2, text(8)))
		a.advance()
		b.advance()
		b.opens(api.OK, a.seal(1, nil))
		a.opens(api.OK, b.seal(1, nil))
	}
}

// R1: one that was declared alone, and not made, panics at nothing either.
func TestDeclared(t *testing.T) {
	var g guard.Guard
	in := lineOf(api.Key{}, 0)
	for epoch := range 4 {
		for _, path := range append([]int{0, 3, 255}, noPaths...) {
			g.Seal(path, text(3))
			g.Counter(path)
			g.Got(path)
			g.Skip(path, 5)
			for _, n := range []int{epoch, epoch + 1} {
				g.Open(sealed(in.key(n), 1, 3, n, epoch, text(3)))
			}
		}
		g.Epochs()
		g.Clone().Seal(3, nil)
		g.Clone().Open(sealed(in.key(epoch+1), 1, 3, epoch+1, 9, nil))
		g.Advance()
	}
}
