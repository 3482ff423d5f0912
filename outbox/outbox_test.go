package outbox_test

import (
	"bytes"
	"math"
	"testing"

	"sheave/api"
	"sheave/outbox"
	"sheave/sample"
)

// gives holds what Next gives to a number and a text; none, if the text is empty.
func gives(t *testing.T, o *outbox.Outbox, most, at int, text string) {
	t.Helper()
	c, is := o.Next(most)
	if is != (text != "") || c.At != at || string(c.Bytes) != text {
		t.Errorf("Next(%d): %d, %q, %t, not %d, %q", most, c.At, c.Bytes, is, at, text)
	}
}

// none holds Next to giving nothing, whatever is asked for.
func none(t *testing.T, o *outbox.Outbox) {
	t.Helper()
	for _, most := range []int{math.MaxInt, 1, 9} {
		gives(t, o, most, 0, "")
	}
}

// is holds an outbox to how far it must be.
func is(t *testing.T, o *outbox.Outbox, base, sent, end int) {
	t.Helper()
	if o.Base() != base || o.Sent() != sent || o.End() != end {
		t.Errorf("Base %d, Sent %d, End %d, not %d, %d, %d", o.Base(), o.Sent(), o.End(), base, sent, end)
	}
	if o.Idle() != (base == end) {
		t.Errorf("from %d to %d: Idle %t", base, end, o.Idle())
	}
}

// holding is an outbox with a text that may all be sent, of which so many bytes were.
func holding(text string, sent int) *outbox.Outbox {
	o := outbox.New(len(text))
	o.Write([]byte(text))
	o.Allow(len(text))
	o.Next(sent)
	return o
}

// P18.1 to P18.3: the chapter's examples.
func TestExamples(t *testing.T) {
	o := outbox.New(4)
	o.Allow(9)
	if got := o.Write([]byte("abcdef")); got != 4 {
		t.Errorf("Write: %d", got)
	}
	gives(t, o, 3, 0, "abc")
	gives(t, o, 9, 3, "d")
	gives(t, o, 9, 0, "")
	o.Lost(1, 2)
	gives(t, o, 9, 1, "bc")
	o.Lost(0, 9)
	o.Ack(2, []api.Range{{From: 3, To: 4}})
	gives(t, o, 9, 2, "c")
	if got := o.Base(); got != 2 {
		t.Errorf("Base: %d", got)
	}
	if got := o.Write([]byte("xyz")); got != 2 {
		t.Errorf("Write: %d", got)
	}
	if got := o.End(); got != 6 {
		t.Errorf("End: %d", got)
	}
	o.Ack(3, nil)
	if got := o.Base(); got != 4 {
		t.Errorf("Base: %d", got)
	}
}

// P18.1: how many bytes there is room for, by the size, at the beginning and when some have arrived.
func TestSizes(t *testing.T) {
	text := sample.Drawn(1, mostSize+5)
	for size, want := range map[int]int{math.MinInt: 1, -1 << 32: 1, -1: 1, 0: 1, 1: 1, 2: 2, 2048: 2048, mostSize - 1: mostSize - 1,
		mostSize: mostSize, mostSize + 1: mostSize, 1 << 40: mostSize, math.MaxInt: mostSize} {
		o := outbox.New(size)
		is(t, o, 0, 0, 0)
		o.Allow(math.MaxInt)
		if got := o.Write(text); got != want || o.Write(text) != 0 {
			t.Errorf("size %d: Write: %d", size, got)
		}
		is(t, o, 0, 0, want)
		if c, _ := o.Next(math.MaxInt); c.At != 0 || !bytes.Equal(c.Bytes, text[:want]) {
			t.Errorf("size %d: Next: %d bytes from %d on", size, len(c.Bytes), c.At)
		}
		if got := o.Write(text); got != 0 {
			t.Errorf("size %d: Write, when all is under way: %d", size, got)
		}
		o.Ack(want, nil)
		is(t, o, want, want, want)
		if got := o.Write(text[5:]); got != want {
			t.Errorf("size %d: Write, when all has arrived: %d", size, got)
		}
		if c, _ := o.Next(math.MaxInt); c.At != want || !bytes.Equal(c.Bytes, text[5:][:want]) {
			t.Errorf("size %d: Next, when all had arrived: %d bytes from %d on", size, len(c.Bytes), c.At)
		}
	}
}

// P18.1: Write of no bytes, of fewer, as many and more than there is room for, into one that is empty, has some, or is full.
func TestWrite(t *testing.T) {
	for size := 1; size < 7; size++ {
		for has := range size + 1 {
			for more := range size + 3 {
				p := newPair(t, size)
				p.write(sample.Drawn(1, has))
				if got := p.write(sample.Drawn(2, more)); got != min(more, size-has) {
					t.Errorf("size %d, of which there are %d: Write of %d: %d", size, has, more, got)
				}
				p.look()
			}
		}
	}
	o := outbox.New(2)
	for _, b := range [][]byte{nil, {}, make([]byte, 0, 9)} {
		if got := o.Write(b); got != 0 {
			t.Errorf("Write of nothing: %d", got)
		}
	}
	is(t, o, 0, 0, 0)
	if got := o.Write([]byte("ab")); got != 2 || o.Write(nil) != 0 || o.Write([]byte("c")) != 0 {
		t.Errorf("Write: %d", got)
	}
	is(t, o, 0, 0, 2)
}

// P18.1: only Base makes room: neither what is under way nor what has arrived behind a gap does.
func TestRoom(t *testing.T) {
	p := newPair(t, 6)
	p.allow(100)
	writes := func(want int) {
		t.Helper()
		if got := p.write(sample.Drawn(uint64(p.m.end()), 9)); got != want {
			t.Errorf("Write: %d, not %d", got, want)
		}
	}
	writes(6)
	p.next(6)
	writes(0)
	p.ack(0, rows(2, 4, 5, 6))
	writes(0)
	p.lost(0, 6)
	writes(0)
	p.ack(1, nil)
	writes(1)
	p.ack(0, rows(1, 2))
	writes(3)
	p.ack(3, rows(4, 5))
	writes(2)
	p.look()
}

// P18.1: a limit that is above the one so far is taken, and no other.
func TestAllow(t *testing.T) {
	o := outbox.New(9)
	o.Write([]byte("abcdefghi"))
	for _, x := range []struct {
		limit, at int
		text      string
	}{
		{0, 0, ""}, {-1, 0, ""}, {math.MinInt, 0, ""}, {1, 0, "a"}, {1, 0, ""}, {0, 0, ""}, {-7, 0, ""}, {4, 1, "bcd"}, {2, 0, ""}, {4, 0, ""},
		{math.MinInt, 0, ""}, {5, 4, "e"}, {math.MaxInt, 5, "fghi"}, {9, 0, ""}, {math.MaxInt, 0, ""},
	} {
		o.Allow(x.limit)
		gives(t, o, math.MaxInt, x.at, x.text)
		none(t, o)
	}
	for _, less := range []int{0, 3, -1, math.MinInt} {
		o = outbox.New(9)
		o.Allow(6)
		o.Allow(less)
		o.Write([]byte("abcdefghi"))
		gives(t, o, math.MaxInt, 0, "abcdef")
		none(t, o)
	}
	o = outbox.New(3) // a limit far beyond what is there holds for what is written later, too
	o.Allow(math.MaxInt)
	for n := 0; n < 30; n += 3 {
		o.Write([]byte("xyz"))
		gives(t, o, 9, n, "xyz")
		o.Ack(n+3, nil)
	}
}

// P18.2: what was never sent: up to End, below the limit, and so many bytes as are asked for.
func TestNextOfNew(t *testing.T) {
	for _, x := range []struct {
		written, limit, most int
		want                 string
	}{
		{0, 0, 9, ""}, {0, 9, 9, ""}, {0, 9, math.MaxInt, ""}, {6, 0, 9, ""}, {6, 0, math.MaxInt, ""}, {6, -3, 9, ""},
		{6, 9, math.MinInt, ""}, {6, 9, -1, ""}, {6, 9, 0, ""}, {6, 9, 1, "a"}, {6, 9, 5, "abcde"}, {6, 9, 6, "abcdef"}, {6, 9, 7, "abcdef"},
		{6, 9, math.MaxInt, "abcdef"}, {6, 6, 9, "abcdef"}, {6, 5, 9, "abcde"}, {6, 1, 9, "a"}, {6, 4, 4, "abcd"}, {6, 4, 3, "abc"},
		{6, 4, 5, "abcd"}, {6, math.MaxInt, math.MaxInt, "abcdef"}, {1, 1, 1, "a"}, {1, 0, 1, ""},
	} {
		o := outbox.New(10)
		o.Write([]byte("abcdef")[:x.written])
		o.Allow(x.limit)
		gives(t, o, x.most, 0, x.want)
		is(t, o, 0, len(x.want), x.written)
	}
}

// P18.2: Next goes on where it was, in pieces of each size.
func TestNextInPieces(t *testing.T) {
	for most := 1; most < 9; most++ {
		for limit := range 9 {
			o := outbox.New(7)
			o.Write([]byte("abcdefg"))
			o.Allow(limit)
			for n := 0; n < min(limit, 7); n += most {
				gives(t, o, most, n, "abcdefg"[n:min(n+most, limit, 7)])
				is(t, o, 0, min(n+most, limit, 7), 7)
			}
			none(t, o)
		}
	}
}

// P18.2: what is to be sent again goes first, the least number first, row by row, not joined with what was never sent; then that.
func TestNextOfLost(t *testing.T) {
	o := holding("abcdefghijkl", 10)
	o.Lost(7, 3)
	o.Lost(1, 2)
	o.Lost(4, 1)
	gives(t, o.Clone(), 1, 1, "b")
	gives(t, o, math.MaxInt, 1, "bc")
	gives(t, o, 0, 0, "")
	gives(t, o, math.MinInt, 0, "")
	gives(t, o, 5, 4, "e")
	gives(t, o, 2, 7, "hi")
	is(t, o, 0, 10, 12)
	gives(t, o, 2, 9, "j") // beside what was never sent, and yet not with it
	is(t, o, 0, 10, 12)
	gives(t, o, 9, 10, "kl")
	none(t, o)
}

// P18.2: Next of none (since most is below 1) leaves all as it is, whether bytes are to be sent again or for the first time.
func TestNextOfNone(t *testing.T) {
	for _, p := range histories(t) {
		for _, most := range []int{0, -1, math.MinInt} {
			if c, there := p.next(most); there || c.At != 0 || c.Bytes != nil {
				t.Errorf("Next(%d): %d, %x, %t", most, c.At, c.Bytes, there)
			}
			p.look()
		}
	}
}

// P18.2: what is lost while some of it was given again: the least number is the first once more, and rows grow together.
func TestLostBetweenNexts(t *testing.T) {
	o := holding("abcdefgh", 8)
	o.Lost(2, 4)
	gives(t, o, 1, 2, "c")
	gives(t, o, 1, 3, "d")
	o.Lost(3, 1)
	gives(t, o, 9, 3, "def")
	o.Lost(4, 1)
	o.Lost(6, 1)
	o.Lost(5, 1)
	gives(t, o, 9, 4, "efg")
	o.Lost(6, 1)
	o.Lost(0, 1)
	gives(t, o, 9, 0, "a")
	gives(t, o, 9, 6, "g")
	none(t, o)
}

// lettersOf are what an outbox gives, one behind the other, with a point behind each piece.
func lettersOf(o *outbox.Outbox) string {
	s := ""
	for c, there := o.Next(math.MaxInt); there; c, there = o.Next(math.MaxInt) {
		s += string(c.Bytes) + "."
	}
	return s
}

// P18.3: Lost, of an outbox whose Base is 2, where e has arrived, up to Sent, which is 8, and End, which is 10.
func TestLost(t *testing.T) {
	for _, x := range []struct {
		name       string
		at, length int
		want       string
	}{
		{"one", 3, 1, "d."},
		{"some", 5, 2, "fg."},
		{"the first", 2, 1, "c."},
		{"the last that was sent", 7, 1, "h."},
		{"what has arrived", 4, 1, ""},
		{"around what has arrived", 3, 3, "d.f."},
		{"all that may be", 2, 6, "cd.fgh."},
		{"below Base", 0, 2, ""},
		{"below Base alone", 1, 1, ""},
		{"from below Base", 1, 2, "c."},
		{"from 0", 0, 4, "cd."},
		{"from below 0", -3, 6, "c."},
		{"below 0", -3, 3, ""},
		{"below 0, up to Base", -3, 5, ""},
		{"never sent", 8, 2, ""},
		{"never sent, by one", 8, 1, ""},
		{"up to what was never sent", 7, 2, "h."},
		{"up to End", 6, 4, "gh."},
		{"beyond End", 6, 100, "gh."},
		{"from End on", 10, 5, ""},
		{"far beyond", 1 << 40, 1 << 40, ""},
		{"all", 0, 10, "cd.fgh."},
		{"no length", 5, 0, ""},
		{"a negative length", 5, -2, ""},
		{"a negative length, that ends in the midst", 9, -4, ""},
		{"the least length", 5, math.MinInt, ""},
		{"the least length, from below 0", -1, math.MinInt, ""},
		{"the least length, from the least number", math.MinInt, math.MinInt, ""},
		{"a negative length, from the least number", math.MinInt, -1, ""},
		{"the greatest length", 0, math.MaxInt, "cd.fgh."},
		{"the greatest length, from the midst", 6, math.MaxInt, "gh."},
		{"the greatest length, from below 0", -1, math.MaxInt, "cd.fgh."},
		{"the greatest length, from the least number", math.MinInt, math.MaxInt, ""},
		{"one from the greatest number", math.MaxInt, 1, ""},
		{"the greatest length, from the greatest number", math.MaxInt, math.MaxInt, ""},
		{"from far below, up to 3", math.MinInt + 4, math.MaxInt, "c."},
		{"no length, from the greatest number", math.MaxInt, 0, ""},
		{"the least length, from the greatest number", math.MaxInt, math.MinInt, ""},
	} {
		o := holding("abcdefghij", 8)
		o.Ack(2, rows(4, 5))
		for range 2 { // the second time of what is to be sent again already
			o.Lost(x.at, x.length)
			is(t, o, 2, 8, 10)
		}
		if got := lettersOf(o.Clone()); got != x.want+"ij." {
			t.Errorf("%s: Lost(%d, %d): %s", x.name, x.at, x.length, got)
		}
		o.Lost(0, 100) // of which some is to be sent again already
		if got := lettersOf(o); got != "cd.fgh.ij." {
			t.Errorf("%s: all is lost: %s", x.name, got)
		}
	}
}

// P18.3: Ack, of an outbox whose Base is 2, where e has arrived and c and h are to be sent again, up to Sent, which is 8, and End, which
// is 10: what Base is then, what is sent again if all that may be is lost, and what if nothing more is.
func TestAck(t *testing.T) {
	for _, x := range []struct {
		name  string
		at    int
		l     []api.Range
		base  int
		all   string
		again string
	}{
		{"nothing", 0, nil, 2, "cd.fgh.", "c.h."},
		{"no ranges", 2, rows(), 2, "cd.fgh.", "c.h."},
		{"below Base", 1, nil, 2, "cd.fgh.", "c.h."},
		{"below 0", -5, nil, 2, "cd.fgh.", "c.h."},
		{"the least number", math.MinInt, nil, 2, "cd.fgh.", "c.h."},
		{"one more", 3, nil, 3, "d.fgh.", "h."},
		{"up to what had arrived", 4, nil, 5, "fgh.", "h."},
		{"up to behind what had arrived", 5, nil, 5, "fgh.", "h."},
		{"in the midst", 6, nil, 6, "gh.", "h."},
		{"all but one", 7, nil, 7, "h.", "h."},
		{"up to Sent", 8, nil, 8, "", ""},
		{"beyond Sent", 9, nil, 8, "", ""},
		{"up to End", 10, nil, 8, "", ""},
		{"beyond End", 11, nil, 8, "", ""},
		{"the greatest number", math.MaxInt, nil, 8, "", ""},
		{"a range in the midst", 0, rows(5, 6), 2, "cd.gh.", "c.h."},
		{"a range from Base on", 0, rows(2, 3), 3, "d.fgh.", "h."},
		{"a range from Base on, up to what had arrived", 0, rows(2, 4), 5, "fgh.", "h."},
		{"a range behind Base", 0, rows(3, 4), 2, "c.fgh.", "c.h."},
		{"what is to be sent again", 0, rows(7, 8), 2, "cd.fg.", "c."},
		{"what had arrived", 0, rows(4, 5), 2, "cd.fgh.", "c.h."},
		{"a range over all", 0, rows(2, 8), 8, "", ""},
		{"a range beyond Sent", 0, rows(7, 100), 2, "cd.fg.", "c."},
		{"a range of what was never sent", 0, rows(8, 10), 2, "cd.fgh.", "c.h."},
		{"a range from End on", 0, rows(10, 12), 2, "cd.fgh.", "c.h."},
		{"a range below Base", 0, rows(0, 2), 2, "cd.fgh.", "c.h."},
		{"a range from below Base", 0, rows(1, 3), 3, "d.fgh.", "h."},
		{"a range from below 0", 0, rows(-9, 3), 3, "d.fgh.", "h."},
		{"a range below 0", 0, rows(-9, -1), 2, "cd.fgh.", "c.h."},
		{"a range that is empty", 0, rows(5, 5), 2, "cd.fgh.", "c.h."},
		{"an empty range at Base", 0, rows(2, 2), 2, "cd.fgh.", "c.h."},
		{"a range that is turned round", 0, rows(7, 5), 2, "cd.fgh.", "c.h."},
		{"a range that is turned round, over all", 0, rows(10, 0), 2, "cd.fgh.", "c.h."},
		{"overlapping ranges", 0, rows(5, 7, 6, 8), 2, "cd.", "c."},
		{"overlapping ranges, falling", 0, rows(6, 8, 5, 7), 2, "cd.", "c."},
		{"touching ranges", 0, rows(5, 6, 6, 7), 2, "cd.h.", "c.h."},
		{"touching ranges, falling", 0, rows(6, 7, 5, 6), 2, "cd.h.", "c.h."},
		{"the same range twice", 0, rows(6, 7, 6, 7), 2, "cd.f.h.", "c.h."},
		{"a range in another", 0, rows(5, 8, 6, 7), 2, "cd.", "c."},
		{"ranges apart", 0, rows(3, 4, 6, 7), 2, "c.f.h.", "c.h."},
		{"ranges apart, of which one closes up", 0, rows(6, 7, 2, 4), 5, "f.h.", "h."},
		{"good ranges among others", 0, rows(9, 3, 3, 4, 6, 6, -4, 0, 6, 7, 20, 30), 2, "c.f.h.", "c.h."},
		{"a number and a range", 3, rows(6, 7), 3, "d.f.h.", "h."},
		{"a number and a range that it closes up to", 6, rows(6, 7), 7, "h.", "h."},
		{"a number, and a range that closes up", 3, rows(3, 4), 5, "fgh.", "h."},
		{"a number, and a range below it", 6, rows(3, 4), 6, "gh.", "h."},
		{"a number, and one range less than all", 7, rows(7, 8), 8, "", ""},
		{"a number beyond Sent, and a range", 9, rows(9, 10), 8, "", ""},
		{"a range from the least number", 0, rows(math.MinInt, 3), 3, "d.fgh.", "h."},
		{"a range to the greatest number", 0, rows(5, math.MaxInt), 2, "cd.", "c."},
		{"a range of all numbers", 0, rows(math.MinInt, math.MaxInt), 8, "", ""},
		{"a range of all numbers, turned round", 0, rows(math.MaxInt, math.MinInt), 2, "cd.fgh.", "c.h."},
		{"a range at the greatest numbers", 0, rows(math.MaxInt-1, math.MaxInt), 2, "cd.fgh.", "c.h."},
		{"a range at the least numbers", 0, rows(math.MinInt, math.MinInt+1), 2, "cd.fgh.", "c.h."},
	} {
		o := holding("abcdefghij", 8)
		o.Ack(2, rows(4, 5))
		o.Lost(7, 1)
		o.Lost(2, 1)
		for range 2 { // the second time there is nothing new
			o.Ack(x.at, x.l)
			is(t, o, x.base, 8, 10)
		}
		if got := lettersOf(o.Clone()); got != x.again+"ij." {
			t.Errorf("%s: Ack(%d, %v): %s", x.name, x.at, x.l, got)
		}
		o.Lost(-5, 100)
		if got := lettersOf(o); got != x.all+"ij." {
			t.Errorf("%s: Ack(%d, %v), and all is lost: %s", x.name, x.at, x.l, got)
		}
	}
}

// P18.3: Base goes on over all ranges that had arrived ahead of it, and stops at the first number that has not.
func TestBaseGoesOn(t *testing.T) {
	o := holding("abcdefghijklmnop", 14)
	o.Ack(0, rows(9, 10, 2, 4, 5, 8))
	is(t, o, 0, 14, 16)
	o.Ack(0, rows(1, 2))
	is(t, o, 0, 14, 16)
	o.Ack(1, nil)
	is(t, o, 4, 14, 16)
	o.Ack(0, rows(4, 5))
	is(t, o, 8, 14, 16)
	o.Ack(0, rows(10, 14))
	is(t, o, 8, 14, 16)
	o.Ack(9, nil)
	is(t, o, 14, 14, 16)
	o.Lost(0, 16)
	if got := lettersOf(o); got != "op." {
		t.Errorf("%s", got)
	}
	is(t, o, 14, 16, 16)
	o.Ack(16, nil)
	is(t, o, 16, 16, 16)
}

// P18.4: Blocked is told when the limit alone keeps bytes: not if some are to be sent again, nor if none are left.
func TestBlocked(t *testing.T) {
	o := outbox.New(8)
	blocked := func(want bool, when string) {
		t.Helper()
		if got := o.Blocked(); got != want {
			t.Errorf("%s: %t", when, got)
		}
	}
	blocked(false, "nothing is written")
	o.Write(nil)
	blocked(false, "nothing is written still")
	o.Write([]byte("abcdef"))
	blocked(true, "nothing is allowed")
	o.Allow(-3)
	blocked(true, "less than nothing is allowed")
	o.Allow(3)
	blocked(false, "some are allowed")
	o.Next(2)
	blocked(false, "one is still allowed")
	o.Next(0)
	blocked(false, "one is still allowed, though none was asked for")
	o.Next(1)
	blocked(true, "all that are allowed are sent")
	o.Lost(1, 1)
	blocked(false, "one is to be sent again")
	o.Lost(0, 3)
	blocked(false, "three are to be sent again")
	o.Ack(0, rows(1, 3))
	blocked(false, "one is still to be sent again")
	o.Ack(1, nil)
	blocked(true, "all that were to be sent again have arrived")
	o.Lost(0, 9)
	blocked(true, "what has arrived is lost")
	o.Allow(6)
	blocked(false, "all are allowed")
	o.Next(9)
	blocked(false, "all are sent")
	o.Lost(3, 3)
	blocked(false, "all are lost")
	o.Next(9)
	blocked(false, "all are sent again")
	o.Write([]byte("gh"))
	blocked(true, "some are written, behind the limit")
	o.Lost(5, 1)
	blocked(false, "and one is lost")
	o.Next(1)
	blocked(true, "and sent again")
	o.Allow(7)
	blocked(false, "one more is allowed")
	o.Next(9)
	blocked(true, "it is sent")
	o.Ack(7, nil)
	blocked(true, "all that were sent have arrived")
	o.Allow(math.MaxInt)
	o.Next(9)
	o.Ack(8, nil)
	blocked(false, "all have arrived")
}

// P18.4: Idle is told when all that was written has arrived.
func TestIdle(t *testing.T) {
	o := outbox.New(4)
	idle := func(want bool, when string) {
		t.Helper()
		if got := o.Idle(); got != want {
			t.Errorf("%s: %t", when, got)
		}
	}
	idle(true, "nothing is written")
	o.Allow(9)
	idle(true, "nothing is written, though it may be sent")
	o.Write([]byte("abcd"))
	idle(false, "some are written")
	o.Ack(4, rows(0, 4))
	idle(false, "they can't have arrived ahead of being sent")
	o.Next(3)
	o.Ack(3, nil)
	idle(false, "one was not sent")
	o.Next(3)
	idle(false, "one is under way")
	o.Lost(3, 1)
	idle(false, "one is to be sent again")
	o.Ack(4, nil)
	idle(true, "all have arrived")
	o.Write([]byte("e"))
	idle(false, "one more is written")
	o.Next(1)
	o.Ack(0, rows(4, 5))
	idle(true, "it has arrived")
}
