package inbox_test

import (
	"bytes"
	"math"
	"slices"
	"strings"
	"testing"

	"sheave/api"
	"sheave/inbox"
	"sheave/sample"
)

// eachState calls with every inbox of a size, by which bytes are there.
func eachState(t *testing.T, size int, call func(p *pair)) {
	t.Helper()
	for code := range 1 << size {
		there := make([]byte, size)
		for i := range there {
			there[i] = ".#"[code>>i&1]
		}
		call(placed(t, size, 2, string(there)))
	}
}

// P19.1 to P19.3: every inbox of a few bytes, and each call that there is.
func TestEachStateAndCall(t *testing.T) {
	for size := 1; size < 7; size++ {
		eachState(t, size, func(p *pair) {
			p.look()
			numbers := edges()
			for n := range p.m.limit() + 3 {
				numbers = append(numbers, n)
			}
			for _, n := range numbers {
				c := p.clone()
				c.read(n)
				c.look()
				for many := range size + 4 {
					c := p.clone()
					c.take(n, sample.Drawn(uint64(many+50), many))
					c.look()
				}
			}
			p.look()
		})
	}
}

// P19.1 to P19.4: every inbox of three bytes, and each row of three calls.
func TestEachThreeCalls(t *testing.T) {
	var calls []func(p *pair)
	for at := range 7 {
		for many := range 4 {
			calls = append(calls, func(p *pair) { p.take(at, sample.Drawn(uint64(p.m.done+7*len(p.m.there)), many)) })
		}
	}
	for most := range 4 {
		calls = append(calls, func(p *pair) { p.read(most) })
	}
	eachState(t, 3, func(p *pair) {
		for _, one := range calls {
			p := p.clone()
			one(p)
			for _, two := range calls {
				p := p.clone()
				two(p)
				for _, three := range calls {
					c := p.clone()
					three(c)
					c.read(9)
				}
			}
		}
	})
}

// drawnCall is a call without a rule.
func drawnCall(p *pair, d func(int) int, most int) {
	p.t.Helper()
	switch d(20) {
	case 0:
		p.take(edges()[d(len(edges()))], sample.Drawn(uint64(d(1<<30)), d(most+2)))
	case 1:
		p.read(edges()[d(len(edges()))])
	case 2, 3, 4:
		p.read(d(most+3) - 1)
	case 5: // what is missing at Here
		p.take(p.m.here(), sample.Drawn(uint64(d(1<<30)), 1+d(3)))
	default:
		at := p.m.done - 3 + d(p.m.size+6)
		p.take(at, sample.Drawn(uint64(d(1<<30)), d(most/4+3)))
	}
}

// P19.4: rows of calls without a rule, held against the plain bytes at each step.
func TestDrawn(t *testing.T) {
	for seed := range uint64(60) {
		d := sample.Draw(seed)
		size := []int{1, 2, 3, 5, 8, 20, 64}[seed%7]
		p := newPair(t, size)
		for i := range 700 {
			drawnCall(p, d, size)
			if i%100 == 0 {
				p.look()
			}
		}
		p.look()
	}
}

// P19.4: pieces that overlap, each of a letter of its own, in every order: what is read is, number by number, the letter that came first.
func TestFirstStays(t *testing.T) {
	pieces := rows(0, 4, 2, 7, 3, 5, 6, 10, 0, 10, 9, 12)
	for _, letters := range sample.Orders([]byte("abcdef")) {
		x := inbox.New(12)
		want := bytes.Repeat([]byte("?"), 12)
		for _, letter := range letters {
			row := pieces[letter-'a']
			many := 0
			for n := row.From; n < row.To; n++ {
				if want[n] == '?' {
					want[n] = letter
					many++
				}
			}
			takes(t, x, row.From, strings.Repeat(string(letter), row.To-row.From), many)
		}
		reads(t, x, 99, string(want))
	}
}

// piece are bytes that are under way, and the number of the first of them.
type piece struct {
	at   int
	text []byte
}

// cutUp are pieces of a text that cover it, of all sizes, overlapping, some of them twice, in an order in which none comes too far ahead
// of its place.
func cutUp(text []byte, most int, d func(int) int) []piece {
	var l []piece
	for n := 0; n < len(text); {
		from, to := max(0, n-d(most)), min(len(text), n+1+d(most))
		for range 1 + d(3)/2 {
			l = append(l, piece{from, text[from:to]})
		}
		n = to
	}
	for from := 0; from < len(l); from += 8 {
		part := l[from:min(from+8, len(l))]
		copy(part, sample.Shuffled(part, d))
	}
	return l
}

// P19.4: what is read is the text, however it was cut, doubled, or turned round; and all of it is read, if what was not taken comes
// again. This is held against nothing but the text.
func TestTextArrives(t *testing.T) {
	for seed := range uint64(60) {
		d := sample.Draw(seed + 2000)
		text := sample.Drawn(seed, 500+d(500))
		x := inbox.New(1 + d(200))
		var got []byte
		for round := 0; len(got) < len(text); round++ {
			if round > len(text) {
				t.Fatalf("seed %d: %d of %d", seed, len(got), len(text))
			}
			for _, p := range cutUp(text, 1+d(30), d) {
				if many := x.Take(p.at, p.text); many > len(p.text) {
					t.Fatalf("seed %d: %d of %d", seed, many, len(p.text))
				}
				if d(3) == 0 {
					got = append(got, x.Read(d(40))...)
				}
				if x.Done() != len(got) || x.Here()-x.Done() > x.Held() || x.Held() > x.Limit()-x.Done() {
					t.Fatalf("seed %d: Done %d, Here %d, Held %d, Limit %d", seed, x.Done(), x.Here(), x.Held(), x.Limit())
				}
			}
			got = append(got, x.Read(math.MaxInt)...)
		}
		if !bytes.Equal(got, text) {
			t.Errorf("seed %d: another text", seed)
		}
	}
}

// P19.4: bytes that differ each time they come: what is read is, number by number, what was told to be new.
func TestNewAreRead(t *testing.T) {
	for seed := range uint64(40) {
		d := sample.Draw(seed + 3000)
		x := inbox.New(10 + d(50))
		first := map[int]byte{}
		for range 2000 {
			at := x.Done() + d(70) - 10
			for i, b := range sample.Drawn(uint64(d(1<<30)), d(12)) { // one by one: so each call tells whether its byte is new
				if x.Take(at+i, []byte{b}) == 1 {
					if _, is := first[at+i]; is {
						t.Fatalf("seed %d: %d is new twice", seed, at+i)
					}
					first[at+i] = b
				}
			}
			done := x.Done()
			for i, b := range x.Read(d(15)) {
				if want, is := first[done+i]; !is || b != want {
					t.Fatalf("seed %d: at %d %x, not %x", seed, done+i, b, want)
				}
			}
			if len(first)-x.Done() != x.Held() {
				t.Fatalf("seed %d: Held %d, of %d, when %d were read", seed, x.Held(), len(first), x.Done())
			}
		}
	}
}

// P19.1, R7: what was handed to Take is neither changed nor kept.
func TestTakeKeepsNothing(t *testing.T) {
	b := sample.Roomy([]byte("abcdefgh"))
	whole := sample.Whole(b)
	x := inbox.New(6)
	x.Take(0, b[:3])
	x.Take(5, b[5:])
	x.Take(0, b)
	if !bytes.Equal(sample.Whole(b), whole) {
		t.Errorf("changed: %q", b)
	}
	sample.Spoil(b)
	reads(t, x, 2, "ab")
	sample.Spoil(b)
	reads(t, x, 3, "cde")
	whole = sample.Whole(b)
	takes(t, x, 6, "XYZ", 3)
	reads(t, x, 9, "fXYZ")
	takes(t, x, 9, "uvwxyz", 6)
	if !bytes.Equal(sample.Whole(b), whole) {
		t.Errorf("changed later: %q", b)
	}
	reads(t, x, 9, "uvwxyz")
}

// P19.2, R7: what Read gave is the caller's own: what is written there, or behind it, is not seen here, and it stays as it is.
func TestReadIsTheCallers(t *testing.T) {
	x := inbox.New(8)
	x.Take(0, []byte("abcdef"))
	one := x.Read(2)
	two := x.Read(2)
	sample.Spoil(one)
	_ = append(one, "......"...)
	if string(two) != "cd" {
		t.Errorf("%q", two)
	}
	shows(t, x, "ef......")
	takes(t, x, 7, "hijkl", 5)
	takes(t, x, 4, "......", 1)
	reads(t, x, 9, "ef.hijkl")
	takes(t, x, 12, "mnop", 4)
	three := x.Read(3)
	x.Take(16, []byte("qrstuvw"))
	x.Read(5)
	x.Take(20, []byte("qrstuvw"))
	if string(two) != "cd" || string(three) != "mno" {
		t.Errorf("%q, %q", two, three)
	}
}

// P19.3, R7: what Beyond gave is the caller's own.
func TestBeyondIsTheCallers(t *testing.T) {
	for name, p := range histories(t) {
		l := p.x.Beyond()
		want := slices.Clone(l)
		all := l[:cap(l)]
		for i := range all {
			all[i] = api.Range{From: 1, To: 2}
		}
		_ = append(l, api.Range{From: 0, To: 99})
		if got := p.x.Beyond(); !slices.Equal(got, want) {
			t.Errorf("%s: %d, not %d", name, got, want)
		}
		l = p.x.Beyond()
		p.look()
		p.take(p.m.here(), sample.Drawn(1, 2))
		p.take(p.m.limit()-1, sample.Drawn(1, 1))
		p.read(9)
		if !slices.Equal(l, want) {
			t.Errorf("%s: became %d, not %d", name, l, want)
		}
		p.look()
	}
}

// P19.3, R7: neither of the two sees what is done to the other, nor does one more of the first.
func TestClone(t *testing.T) {
	for _, p := range histories(t) {
		one, two := p.clone(), p.clone()
		one.look()
		seed := uint64(0)
		for _, call := range []func(p *pair){
			func(p *pair) { p.take(p.m.here(), sample.Drawn(seed, 1)) },
			func(p *pair) { p.read(1) },
			func(p *pair) { p.take(p.m.done+2, sample.Drawn(seed, 2)) },
			func(p *pair) { p.take(p.m.limit()-1, sample.Drawn(seed, 1)) },
			func(p *pair) { p.read(2) },
			func(p *pair) { p.take(p.m.done+1, sample.Drawn(seed, 9)) },
			func(p *pair) { p.take(p.m.done, sample.Drawn(seed, 5)) },
			func(p *pair) { p.read(math.MaxInt) },
			func(p *pair) { p.take(p.m.done, sample.Drawn(seed, 40)) },
			func(p *pair) { p.read(math.MaxInt) },
		} {
			seed++ // each of them takes other bytes
			call(one)
			p.glance()
			two.look()
			three := one.clone()
			seed++
			call(p)
			one.glance()
			call(three)
			call(three)
			one.look()
			p.look()
		}
		two.look()
	}
}

// P19.3, R7: both take what comes behind the last byte: each has its own.
func TestCloneWithRoom(t *testing.T) {
	for many := range 40 {
		for gone := range many + 1 {
			x := inbox.New(100)
			text := sample.Drawn(3, many)
			x.Take(0, text)
			x.Read(gone)
			c := x.Clone()
			x.Take(many, []byte("abc"))
			c.Take(many, []byte("xyz"))
			for box, want := range map[*inbox.Inbox]string{x: "abc", c: "xyz"} {
				reads(t, box, 100, string(text[gone:])+want)
			}
		}
	}
}

// P19.1 to P19.3: an inbox that was declared is one that takes one byte ahead, and so is its clone.
func TestDeclared(t *testing.T) {
	for _, x := range []*inbox.Inbox{new(inbox.Inbox), new(inbox.Inbox).Clone(), inbox.New(0).Clone()} {
		is(t, x, 0, 0, 0)
		reads(t, x, 9, "")
		for n, text := range []string{"ab", "bc", "cd"} {
			if got := x.Limit(); got != n+1 {
				t.Errorf("Limit: %d", got)
			}
			takes(t, x, n+1, text, 0)
			takes(t, x, n, text, 1)
			takes(t, x, n, "x", 0)
			is(t, x, n, n+1, 1)
			reads(t, x, 9, text[:1])
			is(t, x, n+1, n+1, 0)
		}
	}
}

// R8: two that were made apart have nothing in common.
func TestApart(t *testing.T) {
	one, two := newPair(t, 20), newPair(t, 30)
	d := sample.Draw(8)
	for range 300 {
		drawnCall(one, d, 9)
		two.glance()
		drawnCall(two, d, 9)
		one.glance()
	}
	one.look()
	two.look()
}

// P19.1, P19.2, P19.4: a long stream through a small inbox, each piece ahead of the one that it is behind: it goes on for ever, and the
// last bytes are as good as the first.
func TestLongStream(t *testing.T) {
	text := sample.Drawn(77, 1<<20)
	x := inbox.New(100)
	var got []byte
	for at := 0; at < len(text); at += 64 {
		x.Take(at+32, text[at+32:at+64])
		is(t, x, at, at, 32, at+32, at+64)
		x.Take(at, text[at:at+40])
		got = append(got, x.Read(64)...)
	}
	if !bytes.Equal(got, text) {
		t.Errorf("%d bytes of %d, or others", len(got), len(text))
	}
}

// P19.1, P19.3: as many rows as can be, each of one byte, in an inbox of the greatest size; and one piece that fills all gaps.
func TestManyRows(t *testing.T) {
	text := sample.Drawn(5, mostSize)
	x := inbox.New(mostSize)
	for n := 1; n < mostSize; n += 2 {
		if got := x.Take(n, text[n:n+1]); got != 1 {
			t.Fatalf("Take(%d): %d", n, got)
		}
	}
	is(t, x, 0, 0, mostSize/2, 1, 2, 3, 4, 5, 6, 7, 8, 9, 10, 11, 12, 13, 14, 15, 16)
	other := sample.Drawn(6, mostSize)
	if got := x.Take(0, other); got != mostSize/2 {
		t.Errorf("Take: %d", got)
	}
	is(t, x, 0, mostSize, mostSize)
	for n := 0; n < mostSize; n += 2 {
		text[n] = other[n]
	}
	if got := x.Read(mostSize); !bytes.Equal(got, text) {
		t.Errorf("Read: %d bytes, or others", len(got))
	}
	is(t, x, mostSize, mostSize, 0)
}

// A full turn: bytes come, and are read.
func BenchmarkTurn(b *testing.B) {
	x := inbox.New(api.RecvCap)
	text := sample.Drawn(1, api.MaxData)
	for b.Loop() {
		x.Take(x.Done(), text)
		x.Read(api.MaxData)
	}
}

// holed is an inbox with many gaps.
func holed() *inbox.Inbox {
	x := inbox.New(api.RecvCap)
	for n := 32; n < api.RecvCap; n += 64 {
		x.Take(n, sample.Drawn(uint64(n), 32))
	}
	return x
}

// One piece that fills all gaps.
func BenchmarkFill(b *testing.B) {
	x := holed()
	text := sample.Drawn(1, api.RecvCap)
	for b.Loop() {
		x.Clone().Take(0, text)
	}
}

func BenchmarkBeyond(b *testing.B) {
	x := holed()
	for b.Loop() {
		x.Beyond()
	}
}

func BenchmarkClone(b *testing.B) {
	x := holed()
	for b.Loop() {
		x.Clone()
	}
}
