package guard_test

import (
	"bytes"
	"testing"

	"sheave/api"
	"sheave/guard"
	"sheave/packet"
	"sheave/sample"
)

// sent is a record, and what was sealed in it.
type sent struct {
	opened
	b     []byte
	epoch int
	times int // how often it was opened
}

// send seals a text, and holds its nonce to be a new one.
func (p *pair) send(path int, text []byte, used map[api.Use]bool) *sent {
	p.t.Helper()
	b := p.seal(path, text)
	x, e := packet.Parse(b)
	use := api.Use{Epoch: x.Epoch, Path: x.Path, Counter: x.Counter}
	if e != api.OK || used[use] {
		p.t.Fatalf("%v twice, or %d", use, e)
	}
	used[use] = true
	return &sent{opened: opened{path, x.Counter, string(text)}, b: b, epoch: x.Epoch}
}

// take opens a record, and holds it to be the one that was sealed, and to be opened for the first time.
func (p *pair) take(x *sent) api.Errno {
	p.t.Helper()
	path, n, text, e := p.clone().g.Open(x.b)
	p.open(x.b)
	if e != api.OK {
		return e
	}
	x.times++
	if got := (opened{path, n, string(text)}); got != x.opened || x.times > 1 {
		p.t.Fatalf("%v, not %v, opened %d times", got, x.opened, x.times)
	}
	return e
}

// P16.5: whatever is done of a guard, no nonce is used twice: in the same epoch no path's counter is, nor behind what was refused.
func TestNoNonceTwice(t *testing.T) {
	for seed := range uint64(8) {
		a, b := ends(t, 20+seed)
		d := sample.Draw(seed)
		used := map[api.Use]bool{}
		for range 1500 {
			path := d(5) * d(64)
			switch d(12) {
			case 0:
				a.skip(path, a.m.counter(path)-2+d(5))
			case 1:
				a.skip(path, d(last+9))
			case 2:
				a.skip(path, last-d(3))
			case 3:
				if d(9) == 0 {
					a.advance()
				}
			case 4:
				a.seal(path-256, nil)
				a.seal(path, text(257))
			case 5:
				a.open(b.seal(path, nil))
			case 6:
				a.open(a.other(path, a.m.in.epoch+1, d(9), "go on"))
			case 7:
				a.open(sample.Drawn(uint64(d(1<<30)), d(80)))
			default:
				if a.m.counter(path) <= last {
					a.send(path, text(d(20)), used)
				}
			}
		}
		if len(used) < 400 {
			t.Errorf("only %d records", len(used))
		}
	}
}

// P16.5: what one guard sealed the other one opens just once, in any order, on all paths, in two epochs, however often it comes.
func TestJustOnce(t *testing.T) {
	for seed := range uint64(6) {
		a, b := ends(t, 40+seed)
		d := sample.Draw(seed + 50)
		used := map[api.Use]bool{}
		var l []*sent
		for epoch := range 2 {
			for i := range 300 {
				l = append(l, a.send([]int{0, 1, 7, 255}[d(4)], text(i%257), used))
			}
			if epoch == 0 {
				a.advance()
			}
		}
		for range 3 {
			for _, x := range sample.Shuffled(l, d) {
				b.take(x)
			}
		}
		for _, x := range l {
			if x.times != 1 {
				t.Errorf("%v in %d: %d times", x.opened, x.epoch, x.times)
			}
		}
		b.look()
	}
}

// P16.5: a path's records in an order without a rule: within 1024 of the greatest one each is opened once, and one that is older is
// not opened at all.
func TestTooOld(t *testing.T) {
	for seed, many := range []int{1, 2, 1023, 1024, 1025, 1600} {
		a, b := ends(t, uint64(60+seed))
		d := sample.Draw(uint64(seed))
		used := map[api.Use]bool{}
		var l []*sent
		for range many {
			l = append(l, a.send(9, nil, used))
		}
		top := -1
		for _, x := range sample.Shuffled(l, d) {
			want := api.OK
			if x.counter <= top-sight {
				want = api.ErrOld
			}
			if e := b.take(x); e != want {
				t.Fatalf("%d of %d, top %d: %d", x.counter, many, top, e)
			}
			top = max(top, x.counter)
			if e := b.take(x); e != api.ErrOld {
				t.Fatalf("%d once more: %d", x.counter, e)
			}
		}
		b.look()
	}
}

// P16.5: both ends seal, go on and open, while records are lost, doubled, turned round and forged: each is opened once at most, as
// it was sealed, and what is refused is refused as the chapter says.
func TestPlays(t *testing.T) {
	for seed := range uint64(12) {
		a, b := ends(t, 80+seed)
		d := sample.Draw(seed + 1000)
		pairs := [2]*pair{a, b}
		var used [2]map[api.Use]bool
		var bag [2][]*sent
		taken := 0
		for who := range used {
			used[who] = map[api.Use]bool{}
		}
		for range 1200 {
			who := d(2)
			p, q := pairs[who], pairs[1-who]
			many := len(bag[who])
			switch n := d(16); {
			case n < 6 || many == 0:
				path := []int{0, 2, 255}[d(3)]
				if p.m.counter(path) <= last {
					bag[who] = append(bag[who], p.send(path, text(d(40)), used[who]))
				}
			case n < 12:
				if q.take(bag[who][d(many)]) == api.OK {
					taken++
				}
			case n == 12:
				x := bag[who][d(many)]
				if e := q.open(sample.Turned(x.b, d(8*len(x.b)))); e == api.OK {
					t.Fatal("a turned one was opened")
				}
			case n == 13:
				p.open(bag[who][d(many)].b)
			case n == 14 && q.m.in.epoch == p.m.out.epoch: // the other end knows of this epoch, so that it can follow to the next
				p.advance()
			case n == 15:
				p.skip(2, min(p.m.counter(2)+d(1500), last))
			}
			if d(40) == 0 {
				a.look()
				b.look()
			}
		}
		if taken < 100 || a.m.out.epoch < 3 || b.m.in.epoch < 3 {
			t.Errorf("seed %d: %d taken, epochs %d and %d", seed, taken, a.m.out.epoch, b.m.in.epoch)
		}
	}
}

// P16.2, P16.3, P16.5: from the first epoch to the last one both ends go along, one record in each; in the last one there is no next.
func TestToTheEnd(t *testing.T) {
	t.Parallel()
	x, y := drawn(90), drawn(91)
	a, b := guard.New(0, x, y), guard.New(1, y, x)
	kept := []byte(nil)
	for epoch := range end + 1 {
		r, e := a.Seal(epoch%256, []byte{1})
		if e != api.OK || r[3] != byte(epoch>>8) || r[4] != byte(epoch) {
			t.Fatalf("Seal in %d: %x, %d", epoch, r, e)
		}
		path, n, text, e := b.Open(r)
		if path != epoch%256 || n != 0 || !bytes.Equal(text, []byte{1}) || e != api.OK {
			t.Fatalf("Open in %d: %d, %d, %x, %d", epoch, path, n, text, e)
		}
		if epoch > 0 && epoch%64 == 0 {
			if _, _, _, e := b.Open(kept); e != api.ErrOld {
				t.Fatalf("Open in %d of one that came in the epoch ahead: %d", epoch, e)
			}
		}
		kept = r
		want := api.OK
		if epoch == end {
			want = api.ErrExhausted
		}
		if e := a.Advance(); e != want {
			t.Fatalf("Advance in %d: %d", epoch, e)
		}
	}
	if out, in := a.Epochs(); out != end || in != 0 {
		t.Errorf("epochs %d and %d", out, in)
	}
	if out, in := b.Epochs(); out != 0 || in != end {
		t.Errorf("epochs %d and %d", out, in)
	}
}

func BenchmarkSeal(b *testing.B) {
	g := guard.New(0, drawn(92), drawn(93))
	for b.Loop() {
		g.Seal(3, make([]byte, 256))
	}
}

func BenchmarkOpen(b *testing.B) {
	a, c := guard.New(0, drawn(92), drawn(93)), guard.New(1, drawn(93), drawn(92))
	for b.Loop() {
		r, _ := a.Seal(3, make([]byte, 256))
		c.Open(r)
	}
}

func BenchmarkOpenForgedOfTheNextEpoch(b *testing.B) {
	g := guard.New(0, drawn(92), drawn(93))
	r := sealed(drawn(94), 1, 3, 1, 0, make([]byte, 256))
	for b.Loop() {
		g.Open(r)
	}
}
