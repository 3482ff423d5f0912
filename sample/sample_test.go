package sample_test

import (
	"bytes"
	"encoding/hex"
	"math"
	"slices"
	"testing"

	"sheave/api"
	"sheave/sample"
)

// What the library reads, Hex reads too, in both cases of letters.
func TestHex(t *testing.T) {
	for many := range 40 {
		b := sample.Drawn(1, many)
		s := hex.EncodeToString(b)
		if got := sample.Hex(s); !bytes.Equal(got, b) {
			t.Errorf("%s: %x", s, got)
		}
	}
	if got := sample.Hex("00fFAb7f"); !bytes.Equal(got, []byte{0, 255, 171, 127}) {
		t.Errorf("%x", got)
	}
}

// A slip in the digits is not passed over.
func TestHexPanics(t *testing.T) {
	for _, s := range []string{"0", "000", "0g", "+1", "1_", " 1", "0x", "é"} {
		func() {
			defer func() { recover() }()
			t.Errorf("%q: %x", s, sample.Hex(s))
		}()
	}
}

// The same each time for a seed, another for another one, and fewer of them are the first of more.
func TestDrawn(t *testing.T) {
	seen := map[string]uint64{}
	for seed := range uint64(100) {
		long := sample.Drawn(seed, 64)
		if got := sample.Drawn(seed, 20); !bytes.Equal(got, long[:20]) {
			t.Errorf("seed %d: %x, and of more %x", seed, got, long)
		}
		if other, ok := seen[string(long)]; ok {
			t.Errorf("seeds %d and %d draw the same", other, seed)
		}
		seen[string(long)] = seed
	}
}

// As many bytes as are asked for, of three kinds, the same each time.
func TestKinds(t *testing.T) {
	for many := range 40 {
		kinds := sample.Kinds(many)
		if len(kinds) != 3 {
			t.Fatalf("%d bytes: %x", many, kinds)
		}
		for i, want := range [][]byte{make([]byte, many), bytes.Repeat([]byte{255}, many), sample.Drawn(uint64(many), many)} {
			if !bytes.Equal(kinds[i], want) {
				t.Errorf("%d bytes: %x, not %x", many, kinds[i], want)
			}
		}
	}
}

// One bit is another, and what was handed in stays as it was.
func TestTurned(t *testing.T) {
	for bit, want := range map[int]string{0: "01ff00", 7: "80ff00", 8: "00fe00", 15: "007f00", 23: "00ff80"} {
		b := []byte{0, 255, 0}
		if got := sample.Turned(b, bit); !bytes.Equal(got, sample.Hex(want)) || !bytes.Equal(b, []byte{0, 255, 0}) {
			t.Errorf("bit %d: %x of %x", bit, got, b)
		}
	}
}

// Every byte is another one, those behind the last too, and none outside.
func TestSpoil(t *testing.T) {
	all := []byte{1, 2, 3, 4, 5}
	sample.Spoil(all[1:2:4])
	if want := []byte{1, 253, 252, 251, 5}; !bytes.Equal(all, want) {
		t.Errorf("%x, not %x", all, want)
	}
	sample.Spoil(nil)
}

// Every thing is the one that is asked for, those behind the last too, and none outside.
func TestFill(t *testing.T) {
	all := []int{1, 2, 3, 4, 5}
	sample.Fill(all[1:2:4], 9)
	if want := []int{1, 9, 9, 9, 5}; !slices.Equal(all, want) {
		t.Errorf("%d, not %d", all, want)
	}
	sample.Fill(nil, api.Range{})
}

// The same bytes, of their own, with room behind them that is not of noughts.
func TestRoomyAndWhole(t *testing.T) {
	for _, many := range []int{0, 1, 40} {
		b := sample.Drawn(2, many)
		got := sample.Roomy(b)
		room := sample.Whole(got)[many:]
		if !bytes.Equal(got, b) || len(room) < 300 || bytes.Equal(room, make([]byte, len(room))) {
			t.Errorf("%d bytes: %x, room %x", many, got, room)
		}
		kept := sample.Whole(got)
		sample.Spoil(got)
		if !bytes.Equal(b, sample.Drawn(2, many)) || bytes.Equal(kept, sample.Whole(got)) {
			t.Errorf("%d bytes: memory is shared", many)
		}
	}
}

// Each number is below the one that was asked for, each one that may be comes about as often as others, and the same row comes again.
func TestDraw(t *testing.T) {
	for seed := range uint64(20) {
		one, two := sample.Draw(seed), sample.Draw(seed)
		for _, below := range []int{1, 2, 3, 16, 100} {
			times := make([]int, below)
			for range 200 * below {
				n := one(below)
				if n < 0 || n >= below || n != two(below) {
					t.Fatalf("seed %d: %d below %d", seed, n, below)
				}
				times[n]++
			}
			for n, many := range times {
				if many < 100 || many > 300 {
					t.Errorf("seed %d, below %d: %d comes %d times", seed, below, n, many)
				}
			}
		}
	}
}

// The same things in another order, each order that may be about as often as others; what was handed in stays as it was.
func TestShuffled(t *testing.T) {
	draw := sample.Draw(5)
	times := map[[4]int]int{}
	for range 24 * 200 {
		l := []int{1, 2, 3, 4}
		got := sample.Shuffled(l, draw)
		times[[4]int(got)]++
		slices.Sort(got)
		if !slices.Equal(got, l) || !slices.Equal(l, []int{1, 2, 3, 4}) {
			t.Fatalf("%v of %v", got, l)
		}
	}
	for order, many := range times {
		if many < 100 || many > 300 {
			t.Errorf("%v comes %d times", order, many)
		}
	}
	if len(times) != 24 {
		t.Errorf("%d orders", len(times))
	}
	if got := sample.Shuffled([]int{}, draw); len(got) != 0 {
		t.Errorf("%v of nothing", got)
	}
}

// Each order once; of nothing there is one; what was handed in stays as it was.
func TestOrders(t *testing.T) {
	l := []int{1, 2, 3}
	got := sample.Orders(l)
	want := [][]int{{1, 2, 3}, {1, 3, 2}, {2, 1, 3}, {2, 3, 1}, {3, 1, 2}, {3, 2, 1}}
	if !slices.EqualFunc(got, want, slices.Equal) || !slices.Equal(l, []int{1, 2, 3}) {
		t.Errorf("%v of %v", got, l)
	}
	if got := sample.Orders([]int{}); len(got) != 1 || len(got[0]) != 0 {
		t.Errorf("%v of nothing", got)
	}
}

// Two ends a range, in the order that they are written in; of no ends there is none.
func TestRows(t *testing.T) {
	want := []api.Range{{From: 2, To: 5}, {From: 9, To: 7}, {From: -1, To: -1}}
	if got := sample.Rows(2, 5, 9, 7, -1, -1); !slices.Equal(got, want) {
		t.Errorf("%v", got)
	}
	if got := sample.Rows(); len(got) != 0 {
		t.Errorf("%v of no ends", got)
	}
}

// Rising, the least and the greatest number among them, none of them a place in a stream, and the caller's own each time.
func TestEdges(t *testing.T) {
	l := sample.Edges()
	if !slices.IsSorted(l) || l[0] != math.MinInt || l[len(l)-1] != math.MaxInt {
		t.Errorf("%d", l)
	}
	for i, n := range l {
		if n >= 0 && n <= api.MaxVar {
			t.Errorf("%d is a place", n)
		}
		l[i] = 7
	}
	if slices.Contains(sample.Edges(), 7) {
		t.Errorf("%d", sample.Edges())
	}
}
