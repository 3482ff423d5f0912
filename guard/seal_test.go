package guard_test

import (
	"bytes"
	"math"
	"testing"

	"sheave/aead"
	"sheave/api"
	"sheave/kdf"
	"sheave/packet"
	"sheave/sample"
)

// P16.1: paths and texts at the edges, and which error is told where several apply: the path's first, then the text's, then the
// counter's. What is refused changes nothing.
func TestSealEdges(t *testing.T) {
	sizes := []int{0, 1, 2, 15, 16, 17, 255, 256, 257, 258, 1000, 1 << 16}
	for _, p := range histories(t) {
		for _, path := range append([]int{0, 1, 3, 254, 255}, noPaths...) {
			for _, many := range sizes {
				want := api.OK
				switch {
				case path < 0 || path > 255:
					want = api.ErrArg
				case many > 256:
					want = api.ErrLong
				case p.g.Counter(path) > last:
					want = api.ErrExhausted
				}
				p.m.seal(path, text(many))
				got, e := p.g.Seal(path, text(many))
				if e != want || e == api.OK && len(got) != many+27 || e != api.OK && got != nil {
					t.Errorf("Seal(%d, %d bytes): %x, %d, not %d", path, many, got, e, want)
				}
			}
			p.lookAt(path)
		}
		p.look()
	}
}

// P16.1: of several errors the first is told.
func TestSealOrder(t *testing.T) {
	p := newPair(t, 1, drawn(1), drawn(2)).skip(7, last+1)
	for _, x := range []struct {
		path, many int
		want       api.Errno
	}{{-1, 257, api.ErrArg}, {256, 257, api.ErrArg}, {math.MinInt, 300, api.ErrArg}, {math.MaxInt, 0, api.ErrArg}, {7, 257, api.ErrLong},
		{7, 256, api.ErrExhausted}, {7, 0, api.ErrExhausted}, {8, 257, api.ErrLong}, {8, 256, api.OK}} {
		if got, e := p.clone().g.Seal(x.path, text(x.many)); e != x.want || e != api.OK && got != nil {
			t.Errorf("Seal(%d, %d bytes): %x, %d", x.path, x.many, got, e)
		}
	}
	p.look()
}

// P16.1: at each epoch the bytes are those of packet.Print, with the body that the chapter names, by that epoch's key.
func TestSealBytes(t *testing.T) {
	for role := range 2 {
		p := newPair(t, role, drawn(3), drawn(4))
		secret := drawn(3)
		for epoch := range 300 {
			for i, many := range []int{0, 1, 40, 256} {
				path := (epoch*7 + i/2) % 256
				record := api.Packet{Kind: api.PkRecord, Role: role, Path: path, Epoch: epoch, Counter: p.g.Counter(path), Body: make([]byte, many+16)}
				record.Body = aead.Seal(kdf.Of(secret), packet.Nonce(record), packet.Head(record), text(many))
				want, e := packet.Print(record)
				if e != api.OK {
					t.Fatal(e)
				}
				if got := p.seal(path, text(many)); !bytes.Equal(got, want) {
					t.Errorf("in %d: %x, not %x", epoch, got, want)
				}
			}
			secret = kdf.Later(secret)
			p.advance()
		}
	}
}

// P16.1: each path counts by itself, by one for each record.
func TestCounters(t *testing.T) {
	p := newPair(t, 0, drawn(5), drawn(6))
	for i := range 300 {
		for path := range 256 {
			if path%7 == i%7 {
				p.seal(path, nil)
			}
		}
		if i%50 == 0 {
			p.look()
		}
	}
	if got := p.g.Counter(3); got != 43 {
		t.Errorf("Counter(3): %d", got)
	}
	p.look()
}

// P16.1: Counter of what is no path is 0, whatever was done of it.
func TestCounterOfNoPath(t *testing.T) {
	for _, p := range histories(t) {
		for _, path := range noPaths {
			p.skip(path, 5)
			p.seal(path, nil)
			if got := p.g.Counter(path); got != 0 {
				t.Errorf("Counter(%d): %d", path, got)
			}
		}
		p.look()
	}
}

// P16.1: Skip goes to the path's own counter and on, up to one behind the last; never back, never beyond, and on no other path.
func TestSkip(t *testing.T) {
	for _, from := range []int{0, 1, 2, 5, 1 << 16, 1 << 32, last - 1, last, last + 1} {
		p := newPair(t, 0, drawn(7), drawn(8)).skip(9, from)
		for _, x := range []struct {
			n    int
			want api.Errno
		}{{from, api.OK}, {from - 1, api.ErrArg}, {-1, api.ErrArg}, {-from - 1, api.ErrArg}, {math.MinInt, api.ErrArg}, {last + 1, api.OK},
			{last + 2, api.ErrArg}, {last + 3, api.ErrArg}, {1 << 49, api.ErrArg}, {1 << 62, api.ErrArg}, {math.MaxInt, api.ErrArg}} {
			q := p.clone()
			want := from
			if x.want == api.OK {
				want = x.n
			}
			if e := q.g.Skip(9, x.n); e != x.want || q.g.Counter(9) != want {
				t.Errorf("from %d, Skip(9, %d): %d, counter %d", from, x.n, e, q.g.Counter(9))
			}
			q.m.skip(9, x.n)
			q.look()
			q.seal(9, text(4))
			q.seal(10, text(4))
			q.look()
		}
	}
	for _, path := range noPaths {
		for _, n := range []int{math.MinInt, -1, 0, 1, last, last + 1, math.MaxInt} {
			p := newPair(t, 0, drawn(7), drawn(8))
			if e := p.g.Skip(path, n); e != api.ErrArg {
				t.Errorf("Skip(%d, %d): %d", path, n, e)
			}
			p.look()
		}
	}
}

// P16.1: behind a Skip the next record has that counter, and those ahead of it are never used any more.
func TestSkipThenSeal(t *testing.T) {
	a, b := ends(t, 9)
	for _, n := range []int{0, 1, 4, 4, 100, 5000, 1 << 40, last - 3} {
		a.skip(6, max(n, a.m.counter(6)))
		r := a.seal(6, text(3))
		b.opens(api.OK, r).opens(api.ErrOld, r)
		if e := a.g.Skip(6, a.m.counter(6)-1); e != api.ErrArg {
			t.Errorf("back from %d: %d", a.m.counter(6), e)
		}
	}
	a.look()
	b.look()
}

// P16.1: the last counter is used, once; behind it the path seals nothing more, in whatever way it is asked, while others go on.
func TestExhausted(t *testing.T) {
	a, b := ends(t, 10)
	a.skip(3, last-1)
	for _, n := range []int{last - 1, last} {
		r, e := a.clone().g.Seal(3, text(2))
		if p, _ := packet.Parse(r); e != api.OK || p.Counter != n || p.Path != 3 {
			t.Errorf("Seal: %x, %d", r, e)
		}
		b.opens(api.OK, a.seal(3, text(2)))
	}
	for range 5 {
		for _, many := range []int{0, 1, 256} {
			if got, e := a.g.Seal(3, text(many)); e != api.ErrExhausted || got != nil || a.g.Counter(3) != last+1 {
				t.Errorf("Seal: %x, %d, counter %d", got, e, a.g.Counter(3))
			}
		}
		for _, n := range []int{0, last, last + 2} {
			if e := a.g.Skip(3, n); e != api.ErrArg {
				t.Errorf("Skip(3, %d): %d", n, e)
			}
		}
		a.skip(3, last+1)
		b.opens(api.OK, a.seal(2, nil), a.seal(4, nil))
		a.look()
		b.look()
	}
	a.advance()
	b.opens(api.OK, a.seal(3, text(2)))
	if got := a.g.Counter(3); got != 1 {
		t.Errorf("in the next epoch: counter %d", got)
	}
}

// P16.2: behind Advance out's epoch is one more, all counters are 0, and in is what it was.
func TestAdvance(t *testing.T) {
	for name, p := range histories(t) {
		for range 3 {
			out, in := p.g.Epochs()
			if out == end {
				break
			}
			if e := p.g.Advance(); e != api.OK {
				t.Errorf("%s: %d", name, e)
			}
			p.m.advance()
			if now, its := p.g.Epochs(); now != out+1 || its != in {
				t.Errorf("%s: from %d, %d to %d, %d", name, out, in, now, its)
			}
			for path := range 256 {
				if got := p.g.Counter(path); got != 0 {
					t.Errorf("%s: Counter(%d): %d", name, path, got)
				}
			}
			p.look()
			for _, path := range []int{0, 3, 3, 255} {
				p.seal(path, text(9))
			}
			p.skip(8, last+1).look()
		}
		p.future()
	}
}

// P16.2: in the last epoch there is no next one, and what was refused changes nothing: no counter begins anew.
func TestAdvanceAtTheEnd(t *testing.T) {
	for _, mine := range []int{end - 1, end} {
		p := pairAt(t, 1, drawn(12), drawn(13), mine, 4)
		if mine < end {
			p.advance()
		}
		p.seal(3, nil)
		p.skip(4, last+1).skip(5, 77)
		for range 4 {
			if e := p.g.Advance(); e != api.ErrExhausted {
				t.Errorf("Advance: %d", e)
			}
			if out, in := p.g.Epochs(); out != end || in != 4 {
				t.Errorf("epochs %d and %d", out, in)
			}
			p.look()
			p.seal(3, text(1))
			p.seal(4, text(1))
			p.seal(5, text(1))
		}
		if p.g.Counter(3) != 5 || p.g.Counter(4) != last+1 || p.g.Counter(5) != 81 {
			t.Errorf("counters %d, %d, %d", p.g.Counter(3), p.g.Counter(4), p.g.Counter(5))
		}
	}
}

// R7: a text is neither changed nor kept, nor the room behind it; what is answered is the caller's own.
func TestSealKeepsNothing(t *testing.T) {
	for _, many := range []int{0, 1, 16, 256, 257} {
		a, b := ends(t, 14)
		given := sample.Roomy(text(many))
		kept := sample.Whole(given)
		first, e := a.g.Seal(3, given)
		if (e != api.OK) != (many > 256) || !bytes.Equal(sample.Whole(given), kept) {
			t.Errorf("%d bytes: error %d, and now %x", many, e, sample.Whole(given))
		}
		a.m.seal(3, text(many))
		copied := bytes.Clone(first)
		sample.Spoil(given)
		if !bytes.Equal(first, copied) {
			t.Errorf("%d bytes: what was answered has changed", many)
		}
		if e == api.OK {
			b.opens(api.OK, copied)
		}
		sample.Spoil(first)
		a.look()
		b.opens(api.OK, a.seal(3, text(5)))
	}
}
