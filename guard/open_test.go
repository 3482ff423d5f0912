package guard_test

import (
	"bytes"
	"fmt"
	"testing"

	"sheave/api"
	"sheave/packet"
	"sheave/sample"
)

// inFive is a guard whose in has come to epoch 5: on path 3 in the epochs 4 and 5 the counters 2 and 2000 came, and all ahead of
// these epochs on path 0.
func inFive(t *testing.T) *pair {
	t.Helper()
	p := newPair(t, 0, drawn(1), drawn(2))
	for epoch := range 6 {
		p.opens(api.OK, p.others(0, epoch, 0)...)
		if epoch >= 4 {
			p.opens(api.OK, p.others(3, epoch, 2, 2000)...)
		}
	}
	return p
}

// P16.3: what is no packet is told as packet.Parse tells it; a hello and a reply are no records.
func TestOpenNoRecord(t *testing.T) {
	hello, _ := packet.Print(api.Packet{Kind: api.PkHello, Body: text(96)})
	reply, _ := packet.Print(api.Packet{Kind: api.PkReply, Body: text(48)})
	for _, p := range histories(t) {
		short := p.other(3, p.m.in.epoch, 9, "")
		p.opens(api.ErrShort, nil, []byte{}, []byte{3}, []byte{3, 0}, short[:11], short[:26], make([]byte, 0, 99))
		p.opens(api.ErrPacket, []byte{0}, []byte{1}, []byte{2}, []byte{4}, []byte{255}, make([]byte, 27), text(400), append([]byte{3}, make([]byte, 400)...))
		p.opens(api.ErrPacket, hello, reply, []byte{1, 0}, []byte{2, 3}, append([]byte{1}, short...), append([]byte{2}, short...))
		for _, kind := range []byte{0, 1, 2, 4, 131} {
			p.opens(api.ErrPacket, append([]byte{kind}, short[1:]...))
		}
		long := sealed(p.m.in.key(p.m.in.epoch), 1, 3, p.m.in.epoch, 9, text(257)) // by the right key, but longer than a record may be
		p.opens(api.ErrPacket, long)
		p.look()
	}
}

// P16.3: a record of the guard's own role is refused, of each epoch, even with the right key, and even if its epoch, its counter or
// its tag would be refused, too.
func TestOpenOwnRole(t *testing.T) {
	p := inFive(t)
	for epoch := range 10 {
		for _, n := range []int{0, 2, 3, 2000, last} {
			for _, key := range []api.Key{p.m.in.key(epoch), p.m.out.key(epoch), {}} {
				p.opens(api.ErrPacket, sealed(key, 0, 3, epoch, n, text(5)))
			}
		}
	}
	for _, role := range []byte{2, 3, 128, 255} {
		b := p.other(3, 5, 9, "role")
		b[1] = role
		p.opens(api.ErrPacket, b)
	}
	p.look()
	a, b := ends(t, 3)
	a.opens(api.ErrPacket, a.seal(3, nil), a.advance().seal(3, nil))
	b.opens(api.ErrPacket, b.seal(3, nil), b.advance().seal(3, nil))
}

// P16.3: in's epoch, the one ahead of it and the one behind it are opened, and no others, however near they are by their bytes.
func TestOpenEpochs(t *testing.T) {
	t.Parallel()
	for _, in := range []int{0, 1, 2, 5, 254, 255, 256, 257, 511, 512, 32767, 32768, end - 2, end - 1, end} {
		p := pairAt(t, 0, drawn(4), drawn(5), 0, max(in-3, 0))
		for epoch := max(in-3, 0); epoch <= in; epoch++ {
			p.opens(api.OK, p.others(1, epoch, 0)...)
		}
		for far := -4; far <= 4; far++ {
			epoch := in + far
			if epoch < 0 || epoch > end {
				continue
			}
			want := api.ErrEpoch
			if far >= -1 && far <= 1 {
				want = api.OK
			}
			p.tries(want, p.others(3, epoch, 0, 9, last)...)
		}
		for _, epoch := range []int{0, 1, 2, 255, 256, end - 1, end, in ^ 256, in ^ 1<<15, (in + 256) % (end + 1), (in + end) % (end + 1), (in + 2) % (end + 1)} {
			if epoch < in-1 || epoch > in+1 {
				p.tries(api.ErrEpoch, p.others(3, epoch, 0, last)...)
				p.tries(api.ErrEpoch, sealed(p.m.in.key(in), 1, 3, epoch, 1, nil))
			}
		}
		p.look()
	}
}

// P16.3: 0 is not behind the last epoch, and the last one is not ahead of 0: numbers of epochs never wrap.
func TestEpochsDoNotWrap(t *testing.T) {
	p := pairAt(t, 0, drawn(6), drawn(7), 0, end)
	for _, key := range []api.Key{p.m.in.key(end), p.m.in.key(end + 1), {}} {
		p.opens(api.ErrEpoch, sealed(key, 1, 3, 0, 0, nil), sealed(key, 1, 3, 1, 0, nil), sealed(key, 1, 3, end-1, 0, nil))
	}
	p.opens(api.OK, p.others(3, end, 0, last)...)
	p.look()
	p = newPair(t, 0, drawn(6), drawn(7))
	for _, key := range []api.Key{p.m.in.key(0), p.m.in.key(1), {}} {
		p.opens(api.ErrEpoch, sealed(key, 1, 3, end, 0, nil), sealed(key, 1, 3, end-1, 0, nil), sealed(key, 1, 3, 2, 0, nil))
	}
	p.look()
}

// P16.3: of several errors the first that the chapter names is told.
func TestOpenOrder(t *testing.T) {
	p := inFive(t)
	bad := func(role, epoch, n int) []byte { return sealed(drawn(8), role, 3, epoch, n, text(4)) }
	for _, x := range []struct {
		name string
		b    []byte
		want api.Errno
	}{
		{"short, of its own role, two behind", bad(0, 7, 2)[:26], api.ErrShort},
		{"no role, two behind, old", bad(2, 7, 2), api.ErrPacket},
		{"own role, two behind, forged", bad(0, 7, 9), api.ErrPacket},
		{"own role, old, forged", bad(0, 5, 2), api.ErrPacket},
		{"two behind, forged", bad(1, 7, 9), api.ErrEpoch},
		{"two behind, right", p.other(3, 7, 9, ""), api.ErrEpoch},
		{"two behind, a counter that came in epoch 5", bad(1, 7, 2), api.ErrEpoch},
		{"two ahead, forged", bad(1, 3, 9), api.ErrEpoch},
		{"two ahead, right", p.other(3, 3, 9, ""), api.ErrEpoch},
		{"two ahead, one that came", p.other(0, 3, 0, "some"), api.ErrEpoch},
		{"old, forged", bad(1, 5, 2), api.ErrOld},
		{"out of sight, forged", bad(1, 5, 2000-sight), api.ErrOld},
		{"out of sight, right", p.other(3, 5, 2000-sight, ""), api.ErrOld},
		{"ahead, old, forged", bad(1, 4, 2000), api.ErrOld},
		{"ahead, out of sight, right", p.other(3, 4, 0, ""), api.ErrOld},
		{"forged, in sight", bad(1, 5, 2000-sight+1), api.ErrForged},
		{"ahead, forged", bad(1, 4, 1999), api.ErrForged},
		{"behind, forged", bad(1, 6, 2), api.ErrForged},
		{"behind, forged, far on", bad(1, 6, last), api.ErrForged},
	} {
		if path, n, text, e := p.g.Open(x.b); e != x.want || path != 0 || n != 0 || text != nil {
			t.Errorf("%s: %d, %d, %q, %d, not %d", x.name, path, n, text, e, x.want)
		}
		p.opens(x.want, x.b)
		p.look()
	}
	p.future()
}

// P16.3: the record of one epoch by another one's key, or under the head of another record, is forged.
func TestOpenByOtherKeys(t *testing.T) {
	p := inFive(t)
	for epoch := 4; epoch <= 6; epoch++ {
		for other := range 9 {
			want := api.ErrForged
			if other == epoch {
				want = api.OK
			}
			p.tries(want, sealed(p.m.in.key(other), 1, 3, epoch, 2001, text(8)))
			p.tries(api.ErrForged, sealed(p.m.out.key(other), 1, 3, epoch, 2001, text(8)))
		}
		right := p.other(3, epoch, 2001, "right")
		for _, head := range [][]byte{p.other(4, epoch, 2001, ""), p.other(3, epoch, 2002, ""), p.other(3, 4+(epoch-3)%3, 2001, "")} {
			p.opens(api.ErrForged, bytes.Join([][]byte{head[:11], right[11:]}, nil))
		}
		for _, b := range [][]byte{right[:len(right)-1], append(bytes.Clone(right), 0), append(bytes.Clone(right[:11]), right[12:]...)} {
			p.opens(api.ErrForged, b)
		}
		p.tries(api.OK, right)
	}
	p.look()
}

// P16.3: with any bit turned a record is refused, and changes nothing: neither what is told nor what is opened later.
func TestTurned(t *testing.T) {
	for _, epoch := range []int{4, 5, 6} {
		p := inFive(t)
		right := p.other(72, epoch, 9, "right") // no path that something came on is one bit away
		for bit := range 8 * len(right) {
			want := api.ErrForged
			switch at := bit / 8; at {
			case 0, 1: // the kind, the role
				want = api.ErrPacket
			case 3, 4: // the epoch, the highest byte first
				turned := epoch ^ 1<<(bit-8*at+8*(4-at))
				if turned < 4 || turned > 6 {
					want = api.ErrEpoch
				}
			}
			p.opens(want, sample.Turned(right, bit))
			if out, in := p.g.Epochs(); out != 0 || in != 5 {
				t.Fatalf("bit %d: epochs %d, %d", bit, out, in)
			}
			p.lookAt(72)
			p.lookAt(3)
			p.tries(api.OK, right)
		}
		p.look()
		p.future()
		p.opens(api.OK, right).opens(api.ErrOld, right)
		for bit := 8 * 11; bit < 8*len(right); bit++ {
			p.opens(api.ErrOld, sample.Turned(right, bit))
		}
	}
}

// P16.3: the same of guards of all kinds, with each byte of records around, in turn.
func TestTurnedEverywhere(t *testing.T) {
	for _, p := range histories(t) {
		for epoch := max(p.m.in.epoch-2, 0); epoch <= min(p.m.in.epoch+2, end); epoch++ {
			for _, n := range []int{0, 1, 4, last} {
				right := p.other(3, epoch, n, "text")
				for at := range right {
					if e := p.open(sample.Turned(right, 8*at+(at+n)%8)); e == api.OK {
						t.Fatalf("byte %d of %x", at, right)
					}
				}
			}
		}
		p.look()
		p.future()
	}
}

// P16.3: the right record is opened once, with its path, its counter and its text, and is old then.
func TestOpenOnce(t *testing.T) {
	for name, p := range histories(t) {
		for epoch := p.m.in.epoch; epoch <= min(p.m.in.epoch+1, end); epoch++ {
			for _, path := range []int{0, 1, 3, 128, 255} {
				for _, many := range []int{0, 1, 16, 255, 256} {
					q := p.clone()
					n := q.m.top(spot{epoch, path}) + 1
					if n > last {
						continue
					}
					b := q.other(path, epoch, n, string(text(many)))
					gotPath, counter, got, e := q.clone().g.Open(b)
					if gotPath != path || counter != n || !bytes.Equal(got, text(many)) || e != api.OK {
						t.Errorf("%s: %d, %d, %x, %d", name, gotPath, counter, got, e)
					}
					q.opens(api.OK, b).opens(api.ErrOld, b, b)
					q.look()
				}
			}
		}
	}
}

// P16.3: each path has a window of its own, and so has each epoch.
func TestOpenSpots(t *testing.T) {
	p := inFive(t)
	for _, n := range []int{0, 1, 5, 1023, 1024, 5000, last} {
		for path := 10; path < 256; path += 35 {
			p.opens(api.OK, p.others(path, 5, n)...)
			p.opens(api.OK, p.others(path, 4, n)...)
			p.opens(api.ErrOld, p.others(path, 5, n)...)
			p.opens(api.ErrOld, p.others(path, 4, n)...)
		}
		p.look()
	}
}

// P16.3: a record out of sight is old: 1024 below the greatest one that came, in its epoch and on its path alone.
func TestSight(t *testing.T) {
	for _, top := range []int{1023, 1024, 1025, 5000, last - 1, last} {
		for back := range 2 {
			p := inFive(t)
			epoch := 5 - back
			p.opens(api.OK, p.others(9, epoch, top)...)
			for _, x := range []struct {
				n    int
				want api.Errno
			}{{top, api.ErrOld}, {top - 1, api.OK}, {top - 1022, api.OK}, {top - 1023, api.OK}, {top - 1024, api.ErrOld}, {top - 1025, api.ErrOld}, {top + 1, api.OK}} {
				if x.n < 0 || x.n > last {
					continue
				}
				p.tries(x.want, p.others(9, epoch, x.n)...)
				p.tries(api.OK, p.others(10, epoch, x.n)...)
				p.tries(api.OK, p.others(9, 9-epoch, x.n)...)
				p.tries(api.OK, p.others(9, 6, x.n)...)
			}
		}
	}
}

// P16.3: a record of the epoch behind lets in go on to it, with empty windows; those of the epoch that was in's are still opened,
// once, and those of the one ahead of that are not any more.
func TestGoOn(t *testing.T) {
	p := newPair(t, 0, drawn(9), drawn(10))
	counters := []int{0, 1, 2, 1500, 1499}
	for epoch := range 40 {
		path := 3 + epoch%2
		if epoch > 0 {
			p.opens(api.OK, p.others(path, epoch-1, 1501, 1498)...)
		}
		p.opens(api.OK, p.others(path, epoch, counters[epoch%5])...)
		if out, in := p.g.Epochs(); out != 0 || in != epoch {
			t.Fatalf("epochs %d, %d, not 0, %d", out, in, epoch)
		}
		for i := range 256 {
			top, l := p.g.Got(i)
			if i == path && top != counters[epoch%5] || i != path && top != -1 || len(l) != 0 {
				t.Fatalf("in %d: Got(%d): %d, %v", epoch, i, top, l)
			}
		}
		p.look()
		p.opens(api.ErrOld, p.others(path, epoch, counters[epoch%5])...)
		if epoch > 0 {
			p.opens(api.ErrOld, p.others(path, epoch-1, 1501, 1498)...)
			p.opens(api.OK, p.others(path, epoch-1, 1497)...).opens(api.ErrOld, p.others(path, epoch-1, 1497)...)
		}
		if epoch > 1 {
			p.opens(api.ErrEpoch, p.others(path, epoch-2, 1497, 1496, last)...)
		}
		p.look()
		p.future()
	}
}

// P16.3: the windows of an epoch that is gone are not those of a later one: the same counters come on the same paths in each epoch.
func TestSameCountersInEachEpoch(t *testing.T) {
	p := newPair(t, 0, drawn(11), drawn(12))
	for epoch := range 12 {
		for _, path := range []int{0, 3, 255} {
			p.opens(api.OK, p.others(path, epoch, 5, 0, 3)...).opens(api.ErrOld, p.others(path, epoch, 5, 0, 3)...)
			if epoch > 0 {
				p.opens(api.ErrOld, p.others(path, epoch-1, 5, 0, 3)...)
				p.opens(api.OK, p.others(path, epoch-1, 4, 7)...)
			}
			p.look()
		}
	}
}

// P16.3: what is refused of the epoch behind does not let in go on, however often it comes; what is right then does.
func TestRefusedDoesNotGoOn(t *testing.T) {
	p := inFive(t)
	for range 3 {
		p.opens(api.ErrForged, sample.Turned(p.other(3, 6, 0, "next"), 100), sealed(p.m.in.key(5), 1, 3, 6, 0, nil), sealed(p.m.in.key(7), 1, 3, 6, 0, nil))
		p.opens(api.ErrEpoch, p.others(3, 7, 0)...)
		p.opens(api.ErrPacket, sealed(p.m.in.key(6), 0, 3, 6, 0, nil))
		p.look()
	}
	p.opens(api.OK, p.others(3, 6, 0)...)
	p.opens(api.ErrOld, p.others(3, 6, 0)...)
	p.opens(api.ErrEpoch, p.others(3, 4, 9)...)
	p.opens(api.OK, p.others(3, 7, 0)...)
	p.look()
}

// P16.3: in goes on up to the last epoch, and stays there.
func TestOpenToTheEnd(t *testing.T) {
	p := pairAt(t, 0, drawn(13), drawn(14), 0, end-2)
	for epoch := end - 2; epoch <= end; epoch++ {
		p.opens(api.OK, p.others(3, epoch, 1)...)
		p.look()
		p.future()
	}
	for range 3 {
		p.opens(api.ErrEpoch, p.others(3, end-2, 9)...).opens(api.ErrEpoch, sealed(p.m.in.key(end+1), 1, 3, 0, 0, nil))
		p.opens(api.ErrForged, sealed(p.m.in.key(end+1), 1, 3, end, 0, nil))
	}
	p.opens(api.OK, p.others(3, end-1, 0, 2)...).opens(api.OK, p.others(3, end, 0, last)...)
	p.opens(api.ErrOld, p.others(3, end-1, 0, 1, 2)...).opens(api.ErrOld, p.others(3, end, 0, 1, last)...)
	p.look()
}

// P16.3: what is opened makes no difference to what is sealed, nor the other way round.
func TestDirectionsAreApart(t *testing.T) {
	p := newPair(t, 0, drawn(15), drawn(16))
	for epoch := range 10 {
		p.seal(3, text(epoch))
		p.opens(api.OK, p.others(3, epoch, 7)...)
		p.seal(3, text(epoch))
		if got := p.g.Counter(3); got != 2*(epoch%3+1) {
			t.Fatalf("Counter(3): %d", got)
		}
		if epoch%3 == 2 {
			p.advance()
		}
		p.look()
		p.future()
	}
}

// R7: what comes is neither changed nor kept, nor the room behind it; what is answered is the caller's own.
func TestOpenKeepsNothing(t *testing.T) {
	for _, many := range []int{0, 1, 40, 256} {
		p := inFive(t)
		for i, right := range [][]byte{p.other(8, 5, 3, string(text(many))), p.other(8, 4, 3, string(text(many))), p.other(8, 6, 3, string(text(many)))} {
			for _, b := range [][]byte{sample.Turned(right, 99), right, right} {
				given := sample.Roomy(b)
				kept := sample.Whole(given)
				path, n, got, e := p.g.Open(given)
				if !bytes.Equal(sample.Whole(given), kept) {
					t.Errorf("%d bytes, error %d: now %x", many, e, sample.Whole(given))
				}
				want, wrong := p.m.open(b)
				sample.Spoil(given)
				if (opened{path, n, string(got)}) != want || e != wrong {
					t.Errorf("%d bytes, record %d: %x, %d, not %v, %d", many, i, got, e, want, wrong)
				}
				sample.Spoil(got)
				p.look()
			}
		}
		p.future()
	}
}

// R2: beside an error there is nothing else.
func TestNothingBesideErrors(t *testing.T) {
	for name, p := range histories(t) {
		for i, b := range append(p.others(3, p.m.in.epoch, 0, 1, 2, 3), nil, []byte{1, 2}, text(40), p.seal(1, nil)) {
			for range 2 {
				path, n, text, e := p.g.Open(b)
				if e != api.OK && (path != 0 || n != 0 || text != nil) {
					t.Error(fmt.Sprint(name, i, path, n, text, e))
				}
			}
		}
	}
}
