package inbox_test

import (
	"bytes"
	"math"
	"slices"
	"strings"
	"testing"

	"sheave/api"
	"sheave/inbox"
	"sheave/sample"
)

// takes holds Take to how many bytes are new.
func takes(t *testing.T, x *inbox.Inbox, at int, text string, want int) {
	t.Helper()
	if got := x.Take(at, []byte(text)); got != want {
		t.Errorf("Take(%d, %q): %d, not %d", at, text, got, want)
	}
}

// reads holds Read to a text.
func reads(t *testing.T, x *inbox.Inbox, most int, want string) {
	t.Helper()
	if got := x.Read(most); string(got) != want {
		t.Errorf("Read(%d): %q, not %q", most, got, want)
	}
}

// is holds an inbox to how far it must be.
func is(t *testing.T, x *inbox.Inbox, done, here, held int, beyond ...int) {
	t.Helper()
	if x.Done() != done || x.Here() != here || x.Held() != held {
		t.Errorf("Done %d, Here %d, Held %d, not %d, %d, %d", x.Done(), x.Here(), x.Held(), done, here, held)
	}
	if got := x.Beyond(); !slices.Equal(got, rows(beyond...)) {
		t.Errorf("Beyond: %d, not %d", got, beyond)
	}
}

// P19.1 to P19.3: the chapter's examples.
func TestExamples(t *testing.T) {
	x := inbox.New(6)
	takes(t, x, 2, "cd", 2)
	if got := x.Here(); got != 0 {
		t.Errorf("Here: %d", got)
	}
	if got := x.Beyond(); !slices.Equal(got, []api.Range{{From: 2, To: 4}}) {
		t.Errorf("Beyond: %d", got)
	}
	reads(t, x, 9, "")
	takes(t, x, 0, "abXYe", 3)
	reads(t, x, 3, "abc")
	if got := x.Limit(); got != 9 {
		t.Errorf("Limit: %d", got)
	}
	takes(t, x, 8, "zz", 1)
	takes(t, x, 0, "abc", 0)
	if got := x.Held(); got != 3 {
		t.Errorf("Held: %d", got)
	}
}

// holding is an inbox of 8 bytes, of whose stream abc was read: Done is 3, Limit 11. There are f, g and j, which have the numbers
// 5, 6 and 9.
func holding() *inbox.Inbox {
	x := inbox.New(8)
	x.Take(0, []byte("abc"))
	x.Read(3)
	x.Take(5, []byte("fg"))
	x.Take(9, []byte("j"))
	return x
}

// shown are the bytes of an inbox from Done on, up to Limit, with a point where none is there.
func shown(x *inbox.Inbox) string {
	x = x.Clone()
	x.Take(x.Done(), bytes.Repeat([]byte("."), x.Limit()-x.Done()))
	return string(x.Read(math.MaxInt))
}

// shows holds an inbox to such a text.
func shows(t *testing.T, x *inbox.Inbox, want string) {
	t.Helper()
	if got := shown(x); got != want {
		t.Errorf("there is %s, not %s", got, want)
	}
}

// P19.1, P19.3: how many bytes are taken ahead, by the size, at the beginning and when some were read.
func TestSizes(t *testing.T) {
	text := sample.Drawn(1, mostSize+5)
	for size, want := range map[int]int{math.MinInt: 1, -1 << 32: 1, -1: 1, 0: 1, 1: 1, 2: 2, 2048: 2048, mostSize - 1: mostSize - 1,
		mostSize: mostSize, mostSize + 1: mostSize, 1 << 40: mostSize, math.MaxInt: mostSize} {
		x := inbox.New(size)
		limit := func(when string, limit int) {
			t.Helper()
			if got := x.Limit(); got != limit {
				t.Errorf("size %d: Limit, %s: %d", size, when, got)
			}
		}
		is(t, x, 0, 0, 0)
		limit("at the beginning", want)
		if got := x.Take(0, text); got != want || x.Take(0, text) != 0 {
			t.Errorf("size %d: Take: %d", size, got)
		}
		takes(t, x, want, "x", 0)
		is(t, x, 0, want, want)
		limit("when all is there", want)
		if got := x.Read(1); !bytes.Equal(got, text[:1]) {
			t.Errorf("size %d: Read(1): %x", size, got)
		}
		is(t, x, 1, want, want-1)
		limit("when one was read", want+1)
		if got := x.Take(1, text[1:]); got != 1 {
			t.Errorf("size %d: Take, when one was read: %d", size, got)
		}
		is(t, x, 1, want+1, want)
		if got := x.Read(math.MaxInt); !bytes.Equal(got, text[1:want+1]) {
			t.Errorf("size %d: Read: %d bytes", size, len(got))
		}
		is(t, x, want+1, want+1, 0)
		limit("when all was read", 2*want+1)
		if got := x.Take(want+1, text[5:]); got != want {
			t.Errorf("size %d: Take, when all was read: %d", size, got)
		}
		if got := x.Read(math.MaxInt); !bytes.Equal(got, text[5:][:want]) {
			t.Errorf("size %d: Read, when all was read: %d bytes", size, len(got))
		}
	}
}

// P19.1: Take, of an inbox whose Done is 3 and whose Limit is 11, where f, g and j are there: how many are new, and what is there then.
func TestTake(t *testing.T) {
	for _, x := range []struct {
		name string
		at   int
		text string
		many int
		want string
	}{
		{"nothing, at Done", 3, "", 0, "..fg..j."},
		{"nothing, beyond Done", 8, "", 0, "..fg..j."},
		{"nothing, at Limit", 11, "", 0, "..fg..j."},
		{"at Done", 3, "X", 1, "X.fg..j."},
		{"at Done, up to what is there", 3, "XY", 2, "XYfg..j."},
		{"at Done, into what is there", 3, "XYZ", 2, "XYfg..j."},
		{"at Done, up to behind what is there", 3, "WXYZ", 2, "WXfg..j."},
		{"at Done, over what is there", 3, "VWXYZ", 3, "VWfgZ.j."},
		{"at Done, up to Limit", 3, "STUVWXYZ", 5, "STfgWXjZ"},
		{"at Done, across Limit", 3, "STUVWXYZ!?", 5, "STfgWXjZ"},
		{"below Done", 0, "XY", 0, "..fg..j."},
		{"below Done, up to it", 0, "XYZ", 0, "..fg..j."},
		{"right below Done", 2, "X", 0, "..fg..j."},
		{"across Done", 2, "XY", 1, "Y.fg..j."},
		{"across Done, from 0", 0, "VWXYZ", 2, "YZfg..j."},
		{"across Done and Limit", 0, "ABCDEFGHIJKLMN", 5, "DEfgHIjK"},
		{"beyond Done", 4, "X", 1, ".Xfg..j."},
		{"beyond Done, into what is there", 4, "XY", 1, ".Xfg..j."},
		{"what is there, in part", 5, "X", 0, "..fg..j."},
		{"what is there, in its other part", 6, "X", 0, "..fg..j."},
		{"what is there", 5, "XY", 0, "..fg..j."},
		{"what is there, of one byte", 9, "X", 0, "..fg..j."},
		{"the same bytes again", 5, "fg", 0, "..fg..j."},
		{"what is there, and more", 5, "XYZ", 1, "..fgZ.j."},
		{"some of what is there, and more", 6, "XY", 1, "..fgY.j."},
		{"behind what is there", 7, "X", 1, "..fgX.j."},
		{"ahead of what is there", 8, "X", 1, "..fg.Xj."},
		{"between two rows", 7, "XY", 2, "..fgXYj."},
		{"between two rows, and into them", 6, "WXYZ", 2, "..fgXYj."},
		{"across two rows", 4, "UVWXYZ", 3, ".UfgXYj."},
		{"across two rows, and beyond", 4, "TUVWXYZ", 4, ".TfgWXjZ"},
		{"up to Limit", 10, "X", 1, "..fg..jX"},
		{"across Limit", 10, "XY", 1, "..fg..jX"},
		{"what is there, and across Limit", 9, "XYZ", 1, "..fg..jY"},
		{"from the midst across Limit", 8, "WXYZ", 2, "..fg.WjY"},
		{"at Limit", 11, "X", 0, "..fg..j."},
		{"beyond Limit", 12, "XYZ", 0, "..fg..j."},
		{"far beyond Limit", 1 << 40, "XYZ", 0, "..fg..j."},
		{"right below 0", -1, "X", 0, "..fg..j."},
		{"from below 0 across Done", -1, "ABCDEFGHIJKLMN", 0, "..fg..j."},
		{"from far below 0", -1 << 62, "XYZ", 0, "..fg..j."},
		{"from the least number", math.MinInt, "XYZ", 0, "..fg..j."},
		{"from the least number but one", math.MinInt + 1, "XYZ", 0, "..fg..j."},
		{"at 2^62 - 1", api.MaxVar, "XYZ", 0, "..fg..j."},
		{"from 2^62", api.MaxVar + 1, "XYZ", 0, "..fg..j."},
		{"across the greatest number", math.MaxInt - 1, "ABCDEFGHIJKLMN", 0, "..fg..j."},
		{"from the greatest number", math.MaxInt, "ABCDEFGHIJKLMN", 0, "..fg..j."},
		{"the greatest number", math.MaxInt, "X", 0, "..fg..j."},
	} {
		t.Run(x.name, func(t *testing.T) {
			box := holding()
			takes(t, box, x.at, x.text, x.many)
			for range 2 { // from the second time on there is nothing new, whatever the bytes are
				shows(t, box, x.want)
				if box.Done() != 3 || box.Limit() != 11 || box.Held() != 3+x.many {
					t.Errorf("Done %d, Limit %d, Held %d", box.Done(), box.Limit(), box.Held())
				}
				takes(t, box, x.at, strings.Repeat("~", len(x.text)), 0)
			}
		})
	}
}

// P19.1: Take of no bytes leaves all as it is, wherever they are said to be.
func TestTakeOfNothing(t *testing.T) {
	for _, p := range histories(t) {
		for _, at := range append(edges(), 0, 1, p.m.done-1, p.m.done, p.m.done+1, p.m.here(), p.m.limit()-1, p.m.limit(), p.m.limit()+1) {
			for _, b := range [][]byte{nil, {}, make([]byte, 0, 9)} {
				if got := p.x.Take(at, b); got != 0 {
					t.Errorf("Take(%d) of nothing: %d", at, got)
				}
			}
			p.look()
		}
	}
}

// P19.1: what is longer than there is room for, from Done on and from 0 on.
func TestTakeOfMuch(t *testing.T) {
	text := sample.Drawn(4, 3*mostSize)
	for _, size := range []int{1, 9, mostSize} {
		x := inbox.New(size)
		for done := 0; done < 3*size; done += size {
			if got := x.Take(done-done/2, text[done-done/2:]); got != size {
				t.Errorf("size %d, of which %d were read: Take: %d", size, done, got)
			}
			if got := x.Read(math.MaxInt); !bytes.Equal(got, text[done:done+size]) {
				t.Errorf("size %d, of which %d were read: Read: %d bytes", size, done, len(got))
			}
		}
	}
}

// P19.2: Read of none, fewer, as many and more than there are ahead of a gap: what comes, and how far it is then.
func TestRead(t *testing.T) {
	for _, x := range []struct {
		most int
		want string
	}{
		{math.MinInt, ""}, {math.MinInt + 1, ""}, {-1 << 40, ""}, {-2, ""}, {-1, ""}, {0, ""}, {1, "d"}, {2, "de"}, {3, "def"}, {4, "defg"},
		{5, "defg"}, {6, "defg"}, {8, "defg"}, {9, "defg"}, {1 << 40, "defg"}, {math.MaxInt - 1, "defg"}, {math.MaxInt, "defg"},
	} {
		box := holding()
		box.Take(3, []byte("de"))
		reads(t, box, x.most, x.want)
		many := len(x.want)
		is(t, box, 3+many, 7, 5-many, 9, 10)
		if got := box.Limit(); got != 11+many {
			t.Errorf("Read(%d), Limit: %d", x.most, got)
		}
		shows(t, box, "defg..j."[many:]+strings.Repeat(".", many))
		reads(t, box, math.MaxInt, "defg"[many:])
		is(t, box, 7, 7, 1, 9, 10)
		reads(t, box, math.MaxInt, "")
	}
}

// P19.2: Read of an inbox with nothing there, or nothing at Done, gives none, and changes nothing.
func TestReadOfNothing(t *testing.T) {
	for _, p := range []*pair{newPair(t, 6), placed(t, 6, 4, ""), placed(t, 6, 0, ".#"), placed(t, 6, 7, ".....#"), placed(t, 6, 4, ".#####"),
		placed(t, 1, 2, ""), placed(t, 30, 4, "..#.#.#.#.#.#.#.#.#.#")} {
		for _, most := range append(edges(), 0, 1, 2, 6, 30) {
			if got := p.read(most); len(got) != 0 {
				t.Errorf("%d, then %v: Read(%d): %x", p.m.done, p.m, most, got)
			}
		}
		p.look()
	}
}

// P19.2: Read goes on where it was, in pieces of each size, and again when more has come.
func TestReadInPieces(t *testing.T) {
	const text = "abcdefghijklm"
	for most := 1; most < 15; most++ {
		for first := range len(text) + 1 {
			x := inbox.New(20)
			x.Take(0, []byte(text[:first]))
			n := 0
			for n < first {
				to := min(n+most, first)
				reads(t, x, most, text[n:to])
				n = to
				is(t, x, n, first, first-n)
			}
			reads(t, x, most, "")
			x.Take(first, []byte(text[first:]))
			for n < len(text) {
				to := min(n+most, len(text))
				reads(t, x, most, text[n:to])
				n = to
				is(t, x, n, len(text), len(text)-n)
			}
			reads(t, x, most, "")
		}
	}
}

// P19.1, P19.2: Limit goes on with Done, and only with it: what was beyond it may come then.
func TestLimitGoesOn(t *testing.T) {
	x := inbox.New(4)
	limit := func(want int) {
		t.Helper()
		if got := x.Limit(); got != want {
			t.Errorf("Limit: %d, not %d", got, want)
		}
	}
	limit(4)
	takes(t, x, 1, "bcdefg", 3)
	limit(4)
	takes(t, x, 4, "e", 0)
	reads(t, x, 9, "")
	limit(4)
	takes(t, x, 0, "a", 1)
	limit(4)
	reads(t, x, 1, "a")
	limit(5)
	takes(t, x, 4, "efg", 1)
	limit(5)
	reads(t, x, 2, "bc")
	limit(7)
	takes(t, x, 6, "gh", 1)
	reads(t, x, 0, "")
	limit(7)
	reads(t, x, 9, "de")
	limit(9)
	is(t, x, 5, 5, 1, 6, 7)
	takes(t, x, 5, "fGhij", 3)
	reads(t, x, 9, "fghi")
	limit(13)
}

// P19.3: Here and Beyond, with rows that come, grow, touch, and are read.
func TestHereAndBeyond(t *testing.T) {
	x := inbox.New(20)
	take := func(at, many int) {
		t.Helper()
		x.Take(at, []byte("abcdefghijklmnopqrstuvwxyz")[at:at+many])
	}
	is(t, x, 0, 0, 0)
	take(4, 2)
	is(t, x, 0, 0, 2, 4, 6)
	take(8, 1)
	is(t, x, 0, 0, 3, 4, 6, 8, 9)
	take(2, 1)
	is(t, x, 0, 0, 4, 2, 3, 4, 6, 8, 9)
	take(6, 1) // beside one
	is(t, x, 0, 0, 5, 2, 3, 4, 7, 8, 9)
	take(7, 1) // between two: they touch
	is(t, x, 0, 0, 6, 2, 3, 4, 9)
	take(0, 1)
	is(t, x, 0, 1, 7, 2, 3, 4, 9)
	take(1, 1) // up to one: Here is behind it
	is(t, x, 0, 3, 8, 4, 9)
	take(11, 20-11)
	is(t, x, 0, 3, 17, 4, 9, 11, 20)
	reads(t, x, 2, "ab")
	is(t, x, 2, 3, 15, 4, 9, 11, 20)
	reads(t, x, 9, "c")
	is(t, x, 3, 3, 14, 4, 9, 11, 20)
	take(20, 3) // what was beside Limit
	is(t, x, 3, 3, 17, 4, 9, 11, 23)
	take(3, 2)
	is(t, x, 3, 9, 18, 11, 23)
	reads(t, x, 1, "d")
	is(t, x, 4, 9, 17, 11, 23)
	take(9, 2)
	is(t, x, 4, 23, 19)
	reads(t, x, 18, "efghijklmnopqrstuv")
	is(t, x, 22, 23, 1)
	reads(t, x, 1, "w")
	is(t, x, 23, 23, 0)
}

// P19.3: one row alone, wherever it is: at Done there is nothing beyond.
func TestBeyondOfOneRow(t *testing.T) {
	for from := range 9 {
		for to := from + 1; to <= 9; to++ {
			p := placed(t, 9, 5, "")
			p.take(5+from, sample.Drawn(3, to-from))
			if from == 0 {
				is(t, p.x, 5, 5+to, to)
			} else {
				is(t, p.x, 5, 5, to-from, 5+from, 5+to)
			}
			p.look()
		}
	}
}

// P19.3: of the rows beyond the first eight are told, whatever order they came in; when one of them closes up, the next comes to light.
func TestBeyondIsEightAtMost(t *testing.T) {
	for many := range 14 {
		for _, lead := range []int{0, 1, 3} { // so many bytes are there ahead of the first gap
			var all []int
			x := inbox.New(100)
			x.Take(0, make([]byte, lead))
			for i := range many {
				from := lead + 4*i + 1
				all = append(all, from, from+1+i%3)
			}
			for i := len(all) - 2; i >= 0; i -= 2 {
				x.Take(all[i], make([]byte, all[i+1]-all[i]))
			}
			held := x.Held()
			is(t, x, 0, lead, held, all[:min(len(all), 16)]...)
			for len(all) > 0 {
				held += x.Take(x.Here(), make([]byte, all[0]-x.Here()))
				is(t, x, 0, all[1], held, all[2:min(len(all), 18)]...)
				all = all[2:]
			}
		}
	}
}

// P19.3: reading lets none of the rows beyond come or go.
func TestBeyondAfterReading(t *testing.T) {
	x := placed(t, 40, 10, "####.#.#.#.#.#.#.#.#.#.#.##").x
	beyond := []int{15, 16, 17, 18, 19, 20, 21, 22, 23, 24, 25, 26, 27, 28, 29, 30}
	is(t, x, 10, 14, 16, beyond...)
	x.Read(1)
	is(t, x, 11, 14, 15, beyond...)
	x.Read(0)
	is(t, x, 11, 14, 15, beyond...)
	x.Read(9)
	is(t, x, 14, 14, 12, beyond...)
	takes(t, x, 14, "x", 1)
	beyond = append(beyond[2:], 31, 32)
	is(t, x, 14, 16, 13, beyond...)
	x.Read(9)
	is(t, x, 16, 16, 11, beyond...)
	x.Read(9)
	is(t, x, 16, 16, 11, beyond...)
}
