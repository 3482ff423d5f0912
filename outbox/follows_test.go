package outbox_test

import (
	"bytes"
	"math"
	"slices"
	"testing"

	"sheave/api"
	"sheave/outbox"
	"sheave/sample"
)

// eachState calls with every outbox of so many bytes at most, by how far each of them is.
func eachState(t *testing.T, many int, call func(p *pair)) {
	t.Helper()
	for written := range many + 1 {
		for sent := range written + 1 {
			for code := range power(3, sent) {
				states := make([]int, written)
				for i := range sent {
					states[i] = under + code%3
					code /= 3
				}
				call(placed(t, many, 2, states...))
			}
		}
	}
}

func power(n, times int) int {
	if times == 0 {
		return 1
	}
	return n * power(n, times-1)
}

// near are the numbers from below Base up to beyond End, and the edges.
func near(p *pair) []int {
	l := append(edges(), 0)
	for n := p.m.base() - 1; n <= p.m.end()+1; n++ {
		l = append(l, n)
	}
	return l
}

// P18.1 to P18.4: every outbox of a few bytes, and each call that there is.
func TestEachStateAndCall(t *testing.T) {
	eachState(t, 4, func(p *pair) {
		p.look()
		numbers := near(p)
		for _, n := range numbers {
			for _, call := range []func(c *pair){
				func(c *pair) { c.next(n) },
				func(c *pair) { c.allow(n) },
				func(c *pair) { c.ack(n, nil) },
				func(c *pair) { c.write(sample.Drawn(9, min(max(n, 0), 6))) },
			} {
				c := p.clone()
				call(c)
				c.look()
			}
			for _, to := range numbers {
				c := p.clone()
				c.ack(0, rows(n, to))
				c.look()
				c = p.clone()
				c.lost(n, to)
				c.look()
			}
		}
		p.look()
	})
}

// P18.3: every outbox of a few bytes, and each Ack of a number and two ranges: overlapping, touching, apart, turned round.
func TestEachAck(t *testing.T) {
	eachState(t, 3, func(p *pair) {
		for at := range 6 {
			for code := range power(6, 4) {
				c := p.clone()
				c.ack(at, rows(code%6, code/6%6, code/36%6, code/216))
				c.drain(math.MaxInt)
			}
		}
		p.look()
	})
}

// drawnCall is a call without a rule.
func drawnCall(p *pair, d func(int) int, most int) {
	p.t.Helper()
	near := func() int { return p.m.base() - 3 + d(p.m.end()-p.m.base()+7) }
	number := func() int {
		if d(12) == 0 {
			return edges()[d(len(edges()))]
		}
		return near()
	}
	switch d(10) {
	case 0, 1:
		p.write(sample.Drawn(uint64(d(1<<30)), d(most+2)))
	case 2:
		n := near() + d(most+1)
		if d(30) == 0 {
			n = edges()[d(5)]
		}
		p.allow(n)
	case 3, 4, 5:
		p.next(d(most+3) - 1)
	case 6, 7:
		length := d(4)
		if d(8) == 0 {
			length = number()
		}
		p.lost(number(), length)
	default:
		var l []api.Range
		for range d(4) {
			at := number()
			to := number()
			if d(4) > 0 && at < math.MaxInt-4 {
				to = at + d(4)
			}
			l = append(l, api.Range{From: at, To: to})
		}
		at := 0
		if d(3) == 0 {
			at = p.m.base() + d(3)
		} else if d(12) == 0 {
			at = number()
		}
		p.ack(at, l)
	}
}

// P18.5: rows of calls without a rule, held against the plain bytes at each step.
func TestDrawn(t *testing.T) {
	for seed := range uint64(60) {
		d := sample.Draw(seed)
		size := []int{1, 2, 3, 5, 8, 20, 64}[seed%7]
		p := newPair(t, size)
		for i := range 700 {
			drawnCall(p, d, size)
			if i%100 == 0 {
				p.look()
			}
		}
		p.look()
	}
}

// P18.5: what is given, at its numbers, is what was written, and what has arrived is never given again; and all has arrived in the
// end, whatever is lost on its way. This is held against nothing but what was written and what the other end has.
func TestTextArrives(t *testing.T) {
	for seed := range uint64(40) {
		d := sample.Draw(seed + 1000)
		size := 1 + d(100)
		text := sample.Drawn(seed, 600+d(600))
		o := outbox.New(size)
		came, told := make([]bool, len(text)+1), make([]bool, len(text)+1) // at the other end, and as far as the outbox knows
		written := 0
		for step := 0; !o.Idle() || written < len(text); step++ {
			if step > 100000 {
				t.Fatalf("seed %d: %d of %d have arrived", seed, o.Base(), len(text))
			}
			written += o.Write(text[written:min(len(text), written+d(30))])
			o.Allow(slices.Index(came, false) + 1 + d(50))
			if c, is := o.Next(1 + d(20)); is {
				checkChunk(t, c, text[:written], told)
				switch d(4) {
				case 0:
					o.Lost(c.At-d(3), len(c.Bytes)+d(5))
				case 1: // it is lost, and nobody knows it yet
				default:
					for i := range c.Bytes {
						came[c.At+i] = true
					}
				}
			}
			if d(3) == 0 {
				tell(o, came, told)
			}
			if d(9) == 0 { // what is not known of is lost, in the end
				o.Lost(o.Base(), o.Sent()-o.Base())
			}
			if o.End()-o.Base() > size || o.End() != written || o.Sent() > o.End() || o.Base() > o.Sent() {
				t.Fatalf("seed %d: Base %d, Sent %d, End %d", seed, o.Base(), o.Sent(), o.End())
			}
		}
		if o.Base() != len(text) {
			t.Errorf("seed %d: %d of %d have arrived", seed, o.Base(), len(text))
		}
	}
}

func checkChunk(t *testing.T, c api.Chunk, text []byte, told []bool) {
	t.Helper()
	if c.At < 0 || c.At+len(c.Bytes) > len(text) || !bytes.Equal(c.Bytes, text[c.At:c.At+len(c.Bytes)]) {
		t.Fatalf("from %d on: %x", c.At, c.Bytes)
	}
	if i := slices.Index(told[c.At:c.At+len(c.Bytes)], true); i >= 0 {
		t.Fatalf("%d has arrived, and is given again", c.At+i)
	}
}

// tell has the outbox know all that came: what is there without a gap by its end, the rest by ranges.
func tell(o *outbox.Outbox, came, told []bool) {
	at := slices.Index(came, false)
	var l []api.Range
	for n := at; n < len(came); n++ {
		if came[n] {
			l = append(l, api.Range{From: n, To: n + 1})
		}
	}
	o.Ack(at, l)
	copy(told, came)
}

// P18.1, R7: what was handed to Write is neither changed nor kept.
func TestWriteKeepsNothing(t *testing.T) {
	b := sample.Roomy([]byte("abcdefgh"))
	whole := sample.Whole(b)
	o := outbox.New(5)
	o.Allow(9)
	o.Write(b)
	if !bytes.Equal(sample.Whole(b), whole) {
		t.Errorf("changed: %q", b)
	}
	sample.Spoil(b)
	gives(t, o, 2, 0, "ab")
	sample.Spoil(b)
	gives(t, o, 9, 2, "cde")
	whole = sample.Whole(b)
	o.Ack(3, nil)
	o.Write([]byte("XYZ"))
	if !bytes.Equal(sample.Whole(b), whole) {
		t.Errorf("changed later: %q", b)
	}
	gives(t, o, 9, 5, "XYZ")
}

// P18.2, R7: what Next gave is the caller's own: what is written there, or behind it, is not seen here, and it stays as it is.
func TestNextIsTheCallers(t *testing.T) {
	o := holding("abcdefgh", 0)
	one, _ := o.Next(3)
	two, _ := o.Next(3)
	sample.Spoil(one.Bytes)
	_ = append(one.Bytes, "......"...)
	if string(two.Bytes) != "def" {
		t.Errorf("%q", two.Bytes)
	}
	o.Lost(0, 4)
	three, _ := o.Next(9)
	if three.At != 0 || string(three.Bytes) != "abcd" {
		t.Errorf("%d, %q", three.At, three.Bytes)
	}
	gives(t, o, 9, 6, "gh")
	sample.Spoil(three.Bytes)
	o.Ack(2, nil)
	o.Write([]byte("ij"))
	o.Lost(0, 9)
	gives(t, o, 9, 2, "cdefgh")
	o.Ack(6, nil)
	o.Write([]byte("klmnop"))
	o.Allow(99)
	gives(t, o, 9, 8, "ijklmn")
	if string(two.Bytes) != "def" {
		t.Errorf("%q", two.Bytes)
	}
}

// P18.3, R7: the ranges that were handed to Ack are neither changed nor kept.
func TestAckKeepsNothing(t *testing.T) {
	o := holding("abcdefgh", 8)
	l := rows(6, 7, 2, 4, 3, 3, 9, 1, -2, 0, 5, 50)
	want := slices.Clone(l)
	o.Ack(1, l[:4])
	if !slices.Equal(l, want) {
		t.Errorf("%v", l)
	}
	for i := range l {
		l[i] = api.Range{From: 0, To: 8}
	}
	o.Lost(0, 8)
	gives(t, o, 9, 1, "b")
	gives(t, o, 9, 4, "ef")
	gives(t, o, 9, 7, "h")
	none(t, o)
	is(t, o, 1, 8, 8)
}

// P18.4, R7: neither of the two sees what is done to the other, nor does one more of the first.
func TestClone(t *testing.T) {
	for _, p := range histories(t) {
		one, two := p.clone(), p.clone()
		base, sent, end := p.m.base(), p.m.sent(), p.m.end()
		one.look()
		for _, call := range []func(p *pair){
			func(p *pair) { p.lost(base, 2) },
			func(p *pair) { p.allow(sent + 1) },
			func(p *pair) { p.next(1) },
			func(p *pair) { p.ack(base+1, rows(base+2, base+3)) },
			func(p *pair) { p.write(sample.Drawn(uint64(end), 3)) },
			func(p *pair) { p.allow(end + 9) },
			func(p *pair) { p.drain(2) },
			func(p *pair) { p.lost(0, sent) },
			func(p *pair) { p.ack(sent, nil) },
			func(p *pair) { p.write(sample.Drawn(uint64(end+1), 9)) },
		} {
			call(one)
			p.glance()
			two.look()
			three := one.clone()
			call(p)
			one.glance()
			call(three)
			call(three)
			one.look()
			p.look()
		}
		two.look()
	}
}

// P18.4, R7: both write where there is room behind the last byte: each has its own.
func TestCloneWithRoom(t *testing.T) {
	for many := range 40 {
		for gone := range many + 1 {
			o := outbox.New(100)
			o.Allow(200)
			text := sample.Drawn(3, many)
			o.Write(text)
			o.Next(gone)
			o.Ack(gone, nil)
			c := o.Clone()
			o.Write([]byte("abc"))
			c.Write([]byte("xyz"))
			for x, want := range map[*outbox.Outbox]string{o: "abc", c: "xyz"} {
				want = string(text[gone:]) + want
				if got, _ := x.Next(200); got.At != gone || string(got.Bytes) != want {
					t.Errorf("%d bytes, of which %d have arrived: from %d on %q", many, gone, got.At, got.Bytes)
				}
			}
		}
	}
}

// P18.1 to P18.4: an outbox that was declared is one with room for one byte, and so is its clone.
func TestDeclared(t *testing.T) {
	for _, o := range []*outbox.Outbox{new(outbox.Outbox), new(outbox.Outbox).Clone(), outbox.New(0).Clone()} {
		is(t, o, 0, 0, 0)
		none(t, o)
		o.Lost(-1, 9)
		o.Ack(5, rows(0, 9))
		is(t, o, 0, 0, 0)
		if got := o.Write([]byte("ab")); got != 1 || !o.Blocked() {
			t.Errorf("Write: %d", got)
		}
		o.Allow(7)
		gives(t, o, 9, 0, "a")
		o.Lost(0, 1)
		gives(t, o, 9, 0, "a")
		o.Ack(1, nil)
		is(t, o, 1, 1, 1)
		if got := o.Write([]byte("bc")); got != 1 {
			t.Errorf("Write: %d", got)
		}
		gives(t, o, 9, 1, "b")
	}
}

// R8: two that were made apart have nothing in common.
func TestApart(t *testing.T) {
	one, two := newPair(t, 20), newPair(t, 30)
	d := sample.Draw(8)
	for range 300 {
		drawnCall(one, d, 9)
		two.glance()
		drawnCall(two, d, 9)
		one.glance()
	}
	one.look()
	two.look()
}

// P18.1, P18.5: a long stream through a small outbox: it goes on for ever, and the last bytes are as good as the first.
func TestLongStream(t *testing.T) {
	text := sample.Drawn(77, 1<<20)
	o := outbox.New(100)
	o.Allow(len(text))
	var got []byte
	for at := 0; at < len(text) || !o.Idle(); {
		at += o.Write(text[at:])
		o.Next(64)
		o.Lost(o.Base(), 64)
		c, _ := o.Next(64)
		got = append(got, c.Bytes...)
		o.Ack(c.At+len(c.Bytes), nil)
	}
	if !bytes.Equal(got, text) {
		t.Errorf("%d bytes of %d, or others", len(got), len(text))
	}
}

// P18.2, P18.3: as many rows as can be, each of one byte, in an outbox of the greatest size.
func TestManyRows(t *testing.T) {
	text := sample.Drawn(5, mostSize)
	o := outbox.New(mostSize)
	o.Write(text)
	o.Allow(mostSize)
	o.Next(mostSize)
	var l []api.Range
	for n := 1; n < mostSize; n += 2 {
		l = append(l, api.Range{From: n, To: n + 1})
	}
	o.Ack(0, l)
	is(t, o, 0, mostSize, mostSize)
	o.Lost(0, mostSize)
	for n := 0; n < 200; n += 2 {
		if c, there := o.Next(9); !there || c.At != n || !bytes.Equal(c.Bytes, text[n:n+1]) {
			t.Fatalf("%d: %d, %x", n, c.At, c.Bytes)
		}
	}
	o.Ack(mostSize-1, nil)
	is(t, o, mostSize, mostSize, mostSize)
	none(t, o)
}

// A full turn: bytes are written, sent, and arrive.
func BenchmarkTurn(b *testing.B) {
	o := outbox.New(api.SendCap)
	o.Allow(math.MaxInt)
	text := sample.Drawn(1, api.MaxData)
	for b.Loop() {
		o.Write(text)
		o.Next(api.MaxData)
		o.Ack(o.Sent(), nil)
	}
}

// holed is a full outbox of which each second piece has arrived.
func holed() *outbox.Outbox {
	o := outbox.New(api.SendCap)
	o.Write(sample.Drawn(1, api.SendCap))
	o.Allow(api.SendCap)
	o.Next(api.SendCap)
	for n := 32; n < api.SendCap; n += 64 {
		o.Ack(0, rows(n, n+32))
	}
	return o
}

// All that has not arrived is lost, and sent again.
func BenchmarkLostAndNext(b *testing.B) {
	o := holed()
	for b.Loop() {
		o.Lost(0, api.SendCap)
		for is := true; is; {
			_, is = o.Next(api.MaxData)
		}
	}
}

func BenchmarkClone(b *testing.B) {
	o := holed()
	for b.Loop() {
		o.Clone()
	}
}
