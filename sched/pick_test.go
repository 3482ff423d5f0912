package sched_test

import (
	"math"
	"slices"
	"testing"

	"sheave/api"
	"sheave/sample"
	"sheave/sched"
)

// opened is a sched with these paths open.
func opened(policy int, ids ...int) *sched.Sched {
	s := sched.New(policy)
	for _, id := range ids {
		s.Open(id)
	}
	return s
}

// fill sends records on a path until it has no room.
func fill(s *sched.Sched, id, from int) {
	for c := from; s.Under(id) < s.Window(id); c++ {
		s.Sent(id, c, 0, nil)
	}
}

// P21.4: none may be picked: where nothing is live, where what is live is not open, never was, or has no room.
func TestPickNone(t *testing.T) {
	for _, policy := range []int{api.Fastest, api.Turns} {
		s := opened(policy, 1, 2, 3, 4)
		fill(s, 1, 0)
		fill(s, 2, 0)
		s.Sent(2, 90, 0, nil) // one more than its window
		s.Close(3)
		for _, live := range [][]int{nil, {}, {1}, {2}, {3}, {5}, {-1}, {0}, {1, 2}, {2, 1, 3, 5}, {math.MinInt, math.MaxInt}, {1, 1}} {
			for _, rtt := range [][]int{nil, {1}, {-1, -1, -1}, {5, 4, 3, 2, 1, 0}} {
				picksNone(t, s, live, rtt)
			}
		}
		picks(t, s, []int{1, 2, 3, 4, 5}, nil, 4)
	}
}

// P21.4: a path may be picked as long as less is under way than its window, and again when a record came, was lost or the path was
// opened anew.
func TestPickRoom(t *testing.T) {
	for _, policy := range []int{api.Fastest, api.Turns} {
		s := opened(policy, 8)
		for c := range 4 {
			picks(t, s, []int{8}, []int{30}, 8)
			s.Sent(8, c, 10*c, nil)
		}
		picksNone(t, s, []int{8}, []int{30})
		twin := s.Clone()
		s.Got(8, 3, nil, 50) // 0 is lost: two are left, and a window of two
		is(t, s, 8, 2, 2)
		picksNone(t, s, []int{8}, nil)
		s.Got(8, 1, nil, 50)
		is(t, s, 8, 3, 1)
		picks(t, s, []int{8}, nil, 8)
		twin.Late(8, 20, 0)
		is(t, twin, 8, 2, 1)
		picks(t, twin, []int{8}, nil, 8)
		fill(twin, 8, 10)
		picksNone(t, twin, []int{8}, nil)
		twin.Close(8)
		picksNone(t, twin, []int{8}, nil)
		twin.Open(8)
		picks(t, twin, []int{8}, nil, 8)
	}
}

// P21.4, Fastest: the least rtt; of several that which stands first in live, in whatever order that is.
func TestPickFastest(t *testing.T) {
	const least, most = math.MinInt, math.MaxInt
	for _, x := range []struct {
		live, rtt []int
		want      int
	}{
		{[]int{4, 5, 6}, []int{50, 20, 30}, 5}, {[]int{4, 5, 6}, []int{50, 20, 20}, 5}, {[]int{4, 6, 5}, []int{50, 20, 20}, 6},
		{[]int{6, 5, 4}, []int{7, 7, 7}, 6}, {[]int{5, 6, 4}, nil, 5}, {[]int{5, 6, 4}, []int{}, 5}, {[]int{5, 6, 4}, []int{0}, 5},
		{[]int{5, 6, 4}, []int{1}, 6}, {[]int{5, 6, 4}, []int{1, 1}, 4}, {[]int{5, 6, 4}, []int{-1}, 5},
		{[]int{5, 6, 4}, []int{2, -1}, 6}, {[]int{5, 6, 4}, []int{2, -1, -2}, 4}, {[]int{5, 6, 4}, []int{2, 3, 4, 1, 0, -9}, 5},
		{[]int{4}, []int{9, 1}, 4}, {[]int{4, 5}, []int{least, most}, 4}, {[]int{4, 5}, []int{most, least}, 5},
		{[]int{4, 5}, []int{most, most}, 4}, {[]int{4, 5}, []int{most, most - 1}, 5}, {[]int{4, 5, 4}, []int{9, 5, 3}, 4},
		{[]int{4, 5, 4}, []int{9, 5, 5}, 5}, {[]int{4, 4, 5}, []int{9, 3, 5}, 4}, {[]int{4, 4, 5}, []int{9, 6, 5}, 5},
		{[]int{4, 4}, []int{9, 9}, 4}, {[]int{7, 4, 5}, []int{1, 3, 2}, 5}, {[]int{-1, 3, 5, 9}, []int{0, 1, 8, 0}, 5},
		{[]int{8, 4, 5}, []int{1, 3, 2}, 5}, {[]int{8, 9, most, 4}, []int{1}, most}, {[]int{6, most}, []int{4, 4}, 6},
	} {
		s := opened(api.Fastest, 4, 5, 6, 8, 9, most)
		fill(s, 8, 0)
		s.Close(9)
		for range 3 { // what was told last makes no difference
			picks(t, s, x.live, x.rtt, x.want)
		}
	}
}

// P21.4, Fastest: the order in which paths were opened, and which have more room, makes no difference.
func TestPickFastestOrders(t *testing.T) {
	for _, order := range sample.Orders([]int{1, 2, 3, 4}) {
		for _, live := range sample.Orders([]int{1, 2, 3, 4}) {
			s := opened(api.Fastest, order...)
			s.Sent(order[0], 0, 0, nil)
			rtt := make([]int, 4)
			for i, id := range live {
				rtt[i] = []int{0, 40, 20, 20, 30}[id]
			}
			want := 2
			if slices.Index(live, 3) < slices.Index(live, 2) {
				want = 3
			}
			picks(t, s, live, rtt, want)
		}
	}
}

// P21.4, Turns: one behind the other, from the least on, and round from the greatest to the least, whatever the order in live and the
// rtts are.
func TestPickTurns(t *testing.T) {
	for _, order := range sample.Orders([]int{0, 3, 255, math.MaxInt}) {
		for _, rtt := range [][]int{nil, {9, 1, 5, 7}, {-1}, {4, 4, 4, 4, 4, 4}} {
			s := opened(api.Turns, order...)
			for range 3 {
				for _, want := range []int{0, 3, 255, math.MaxInt} {
					picks(t, s, order, rtt, want)
				}
			}
		}
	}
}

// P21.4, Turns: from each number that may have been told last, with each set of paths that may be picked then.
func TestPickTurnsFrom(t *testing.T) {
	for last := range 6 {
		for set := range 1 << 6 {
			s := opened(api.Turns, 0, 1, 2, 3, 4, 5)
			picks(t, s, []int{last}, nil, last)
			var live []int
			for id := 5; id >= 0; id-- {
				if set>>id&1 == 1 {
					live = append(live, id)
				}
			}
			want := -1
			for step := 6; step > 0; step-- { // the nearest is found last
				if id := (last + step) % 6; slices.Contains(live, id) {
					want = id
				}
			}
			if want < 0 {
				picksNone(t, s, live, nil)
				continue
			}
			picks(t, s, append(live, live...), nil, want) // those that stand there twice have no more turns
		}
	}
}

// P21.4, Turns: those that are not open, or have no room, are passed over, and get their turn when they may be picked.
func TestPickTurnsPassesOver(t *testing.T) {
	s := opened(api.Turns, 1, 2, 4)
	live := []int{4, 3, 2, 1, -1, 0}
	for _, want := range []int{1, 2, 4, 1} {
		picks(t, s, live, nil, want)
	}
	fill(s, 2, 0)
	for _, want := range []int{4, 1, 4, 1} {
		picks(t, s, live, nil, want)
	}
	s.Got(2, 3, rows(0, 4), 5)
	s.Open(3)
	for _, want := range []int{2, 3, 4, 1, 2} {
		picks(t, s, live, nil, want)
	}
}

// P21.4, Turns: the last one told counts also when it was closed, and when it was opened anew.
func TestPickTurnsBehindClose(t *testing.T) {
	for _, again := range []bool{false, true} {
		s := opened(api.Turns, 1, 3, 5)
		live := []int{1, 3, 5}
		picks(t, s, live, nil, 1)
		picks(t, s, live, nil, 3)
		s.Close(3)
		if again {
			s.Open(3)
		}
		picks(t, s, live, nil, 5)
		picks(t, s, live, nil, 1)
		s.Close(1)
		want := 5
		if again {
			want = 3
		}
		picks(t, s, live, nil, want)
		s.Close(5)
		s.Close(3)
		s.Open(2)
		picksNone(t, s, live, nil)
		picks(t, s, []int{2}, nil, 2)
	}
}

// P21.4: a Pick that tells none changes nothing: the turn stays, also at the first.
func TestPickNoneChangesNothing(t *testing.T) {
	for _, policy := range []int{api.Fastest, api.Turns} {
		p := newPair(t, policy).open(0, 1, 2, 7)
		p.sends(7, 0, 1, 2, 3)
		for range 6 {
			for _, live := range [][]int{nil, {7}, {9, -1}, {math.MaxInt, math.MinInt}} {
				if id, is := p.pick(live, []int{1, 2}); id != 0 || is {
					t.Errorf("Pick(%d): %d, %t", live, id, is)
				}
				p.look()
			}
			p.pick([]int{2, 1, 0, 7}, []int{1, 1, 1, 0})
		}
	}
	s := opened(api.Turns, 0, 1)
	picksNone(t, s, []int{7}, nil)
	picks(t, s, []int{1, 0}, nil, 0) // at first it is -1 that was told last, and 0 is above it
}

// P21.4: behind the greatest number that there is comes the least, and a path 0 that was told is not taken for none.
func TestPickTurnsAtTheEnds(t *testing.T) {
	const most = math.MaxInt
	s := opened(api.Turns, 0, 5, most-1, most)
	live := []int{most, 0, most - 1, 5}
	for range 2 {
		for _, want := range []int{0, 5, most - 1, most} {
			picks(t, s, live, nil, want)
		}
	}
	picks(t, s, []int{most}, nil, most)
	picks(t, s, []int{most}, nil, most)
	picks(t, s, []int{most, 5}, nil, 5)
	picks(t, s, []int{0}, nil, 0)
	picks(t, s, []int{0, most}, nil, most)
	picks(t, s, []int{0, most}, nil, 0)
}

// P21.4: Pick has nothing be under way, and leaves what it is given as it was.
func TestPickLeavesTheRest(t *testing.T) {
	for _, policy := range []int{api.Fastest, api.Turns} {
		p := newPair(t, policy).open(1, 2, 3).sends(1, 0, 1).sends(2, 5)
		for range 9 {
			p.pick([]int{3, 1, 2, 2}, []int{7, 9, 8})
			is(t, p.s, 1, 4, 2)
			is(t, p.s, 2, 4, 1)
			is(t, p.s, 3, 4, 0)
		}
		p.look()
	}
}
