package world

import (
	"bytes"
	"math"
	"slices"
	"testing"

	"sheave/api"
	"sheave/sample"
)

// These tests stand inside the package: no end gives a datagram of so few bytes, and none of it can be told from outside byte by byte.

// holding is a bag of datagrams with so many bytes each, to the ends in turn.
func holding(lengths ...int) bag {
	var b bag
	for i, n := range lengths {
		b.put(i%2, sample.Drawn(uint64(i), n))
	}
	return b
}

// P23.1, EvTurn: of the last 16 bytes the bit that M says, bit 0 being the lowest of the first of these; nothing, if there are fewer.
func TestTurnOfEachLength(t *testing.T) {
	for _, many := range []int{0, 1, 7, 15, 16, 17, 27, 31, 32, 33, 97, 283, 400} {
		for _, x := range []struct{ m, bit int }{
			{0, 0}, {1, 1}, {7, 7}, {8, 8}, {63, 63}, {64, 64}, {127, 127}, {128, 0}, {-1, 0}, {-2, 1}, {-128, 127}, {-129, 0},
			{math.MaxInt, 127}, {math.MinInt, 127}, {math.MinInt + 1, 126},
		} {
			w := World{bag: holding(40, many, 50)}
			row := slices.Clone(w.bag.row[:])
			if got := w.Do(api.Event{Kind: api.EvTurn, N: 1, M: x.m}); got.Code != api.OK || got.N != 0 || got.Bytes != nil {
				t.Fatalf("%+v", got)
			}
			want := sample.Drawn(1, many)
			if many >= 16 {
				want = sample.Turned(want, 8*(many-16)+x.bit)
			}
			if got := w.bag.row[1]; !bytes.Equal(got.bytes, want) || got.to != 1 {
				t.Errorf("the bit %d of %d bytes: %x, not %x", x.m, many, got.bytes, want)
			}
			if !bytes.Equal(row[1].bytes, sample.Drawn(1, many)) {
				t.Error("the bytes themselves are written over")
			}
			for _, at := range []int{0, 2} {
				if got := w.bag.row[at]; !bytes.Equal(got.bytes, row[at].bytes) {
					t.Errorf("the datagram %d is turned", at)
				}
			}
		}
	}
}

// P23.1: twice the same bit: the datagram is what it was.
func TestTurnTwice(t *testing.T) {
	for bit := range bits {
		b := holding(30, 16)
		b.turn(1, bit)
		b.turn(1, bit+bits)
		if !bytes.Equal(b.row[1].bytes, sample.Drawn(1, 16)) {
			t.Errorf("the bit %d, turned twice: %x", bit, b.row[1].bytes)
		}
	}
}

// P23.1: at most 64 are under way: the first ones that are put there; and one that is taken out leaves nothing of it behind.
func TestRoomOfABag(t *testing.T) {
	for many := range api.MaxBag + 1 {
		b := holding(make([]int, many)...)
		var l [][]byte
		for i := range 70 {
			l = append(l, []byte{byte(i)})
		}
		b.put(1, l...)
		b.put(0, []byte{99})
		b.put(0)
		if b.many != api.MaxBag {
			t.Fatalf("%d are under way", b.many)
		}
		for i := many; i < api.MaxBag; i++ {
			if got := b.row[i]; got.to != 1 || !bytes.Equal(got.bytes, l[i-many]) {
				t.Errorf("with %d: %+v at %d", many, got, i)
			}
		}
		for left := api.MaxBag; left > 0; left-- {
			at := many % left
			want := b.row[at]
			if got := b.take(at); got.to != want.to || !bytes.Equal(got.bytes, want.bytes) || b.many != left-1 {
				t.Fatalf("take(%d): %+v, not %+v", at, got, want)
			}
			for _, d := range b.row[b.many:] {
				if d.to != 0 || d.bytes != nil {
					t.Fatalf("%+v is left behind", d)
				}
			}
		}
	}
}

// P23.1, EvClose: what it tells is not under way, if it is empty; there is none of no bytes.
func TestNothingIsUnderWayOfNoBytes(t *testing.T) {
	w := New(api.Config{}, api.Config{})
	for _, e := range []api.Event{{Kind: api.EvClose}, {Kind: api.EvClose, Who: 1}} {
		if got := w.Do(e); got.Code != api.OK || w.bag.many != 0 || len(w.Under()) != 0 {
			t.Errorf("%+v: %+v, and %v", e, got, w.Under())
		}
	}
}
