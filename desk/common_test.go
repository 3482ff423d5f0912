package desk_test

import (
	"bytes"
	"math"
	"slices"
	"strings"
	"testing"

	"sheave/api"
	"sheave/desk"
	"sheave/ladder"
	"sheave/sample"
)

// most is the greatest number that a line can say.
const most = 1<<62 - 1

// configs are those of two ends that know each other.
func configs() (a, b api.Config) {
	a = api.Config{Secret: api.Key{1}, Public: ladder.Public(api.Key{2}), Draw: api.Key{3}}
	b = api.Config{Role: 1, Secret: api.Key{2}, Draw: api.Key{4}}
	return a, b
}

// meant are events of each kind, in their order, with a number of its own in each field that its row names.
func meant() []api.Event {
	var l []api.Event
	for _, s := range shapes() {
		l = append(l, s.event(1, 7, -12, 345, []byte{0xab, 0x0c}))
	}
	return l
}

// same tells whether two events are the same.
func same(x, y api.Event) bool {
	return x.Kind == y.Kind && x.Who == y.Who && x.Path == y.Path && x.N == y.N && x.M == y.M && bytes.Equal(x.Bytes, y.Bytes)
}

func sameAll(x, y []api.Event) bool { return slices.EqualFunc(x, y, same) }

// alike tells whether two answers are the same.
func alike(x, y api.Answer) bool {
	return x.Code == y.Code && x.N == y.N && bytes.Equal(x.Bytes, y.Bytes)
}

// brief is the beginning of a script, for what a test tells.
func brief(s string) string { return s[:min(len(s), 200)] }

// reads holds what Parse tells of a script that is one to what it must be.
func reads(t *testing.T, s string, want ...api.Event) {
	t.Helper()
	if l, line, e := desk.Parse(s); e != api.OK || line != 0 || !sameAll(l, want) {
		t.Errorf("%q: line %d, error %d, %d events, not %d:\n%+v\nnot\n%+v", brief(s), line, e, len(l), len(want), l[:min(len(l), 20)], want[:min(len(want), 20)])
	}
}

// isNone holds what Parse tells of a script with a line that is none to what it must be.
func isNone(t *testing.T, s string, want int) {
	t.Helper()
	if l, line, e := desk.Parse(s); e != api.ErrScript || line != want || l != nil {
		t.Errorf("%q: line %d, error %d, %d events, not line %d alone", brief(s), line, e, len(l), want)
	}
}

// isTooLong holds what Parse tells of a script that is too long to what it must be.
func isTooLong(t *testing.T, s string) {
	t.Helper()
	if l, line, e := desk.Parse(s); e != api.ErrLong || line != 0 || l != nil {
		t.Errorf("%q and more, of %d bytes: line %d, error %d, %d events", brief(s), len(s), line, e, len(l))
	}
}

// prints holds what Print tells of events that lines tell of to what it must be.
func prints(t *testing.T, l []api.Event, want string) {
	t.Helper()
	if s, e := desk.Print(l); e != api.OK || s != want {
		t.Errorf("%d events: error %d, %d bytes, not %d:\n%q\nnot\n%q", len(l), e, len(s), len(want), brief(s), brief(want))
	}
}

// refuses holds the error that Print tells to what it must be.
func refuses(t *testing.T, want api.Errno, l ...api.Event) {
	t.Helper()
	if s, e := desk.Print(l); e != want || s != "" {
		t.Errorf("%+v: error %d, not %d, and %q", l[:min(len(l), 3)], e, want, brief(s))
	}
}

// runs are what Run answers of a script.
func runs(t *testing.T, script ...string) []api.Answer {
	t.Helper()
	a, b := configs()
	l, e := desk.Run(a, b, events(t, script...))
	if e != api.OK {
		t.Fatalf("%q: error %d", script, e)
	}
	return l
}

// events are those of a script, by its lines.
func events(t *testing.T, script ...string) []api.Event {
	t.Helper()
	s := strings.Join(script, "\n")
	l, line, e := desk.Parse(s)
	if e != api.OK {
		t.Fatalf("%q: line %d, error %d", s, line, e)
	}
	return l
}

// play is a script in which two ends meet, and bytes go to and fro.
var play = []string{
	"poll 0 9", "deliver 0", "poll 1 9", "deliver 0", "look 0 0", "look 1 0", "write 0 6869", "poll 0 9", "double 0", "double 0",
	"turn 0 5", "deliver 0", "read 1 1", "read 1 9", "write 1", "write 2 00", "tick 30", "tick -1", "poll 1 9", "drop 0",
	"add 0 5 -9", "add 0 5 1", "poll 0 3", "deliver 0", "update 0", "update 0", "remove 0 9", "inject 1 ff", "inject 0", "look 0 5",
	"close 1 77", "read 1 9", "deliver -1", "look 0 0", "close 0 1",
}

// withRoom are the same things with room behind them, filled with one of them.
func withRoom[T any](l []T, x T) []T {
	l = append(slices.Clone(l), x, x, x)
	return l[:len(l)-3]
}

// scriptLike draws events of each kind, with all numbers that a line can say, and bytes of some lengths.
func scriptLike(d func(below int) int, many int) []api.Event {
	number := func() int {
		l := []int{0, 1, -1, most, -most, most - 1, d(10), d(1000) - 500, d(1 << 46), -d(1 << 46), d(1<<46) << 16, 1<<31 - 1 + d(3), -1<<31 - 1 + d(3)}
		return l[d(len(l))]
	}
	var l []api.Event
	for range many {
		s := shapes()[d(14)]
		b := sample.Drawn(uint64(d(1<<30)), []int{0, 0, 1, 2, d(9), d(60)}[d(6)])
		l = append(l, s.event(number(), number(), number(), number(), b))
	}
	return l
}

// worldLike draws events that ends in a world have something to do with.
func worldLike(d func(below int) int, many int) []api.Event {
	var l []api.Event
	for range many {
		s := shapes()[[]int{0, 0, 1, 2, 3, 3, 3, 4, 4, 4, 4, 4, 5, 6, 7, 8, 9, 10, 12, 13, d(14)}[d(21)]]
		b := sample.Drawn(uint64(d(1<<30)), d(300))
		who, n := d(2), []int{9, 9, d(100), d(2000), -d(5)}[d(5)]
		if d(40) == 0 {
			who, n = d(5)-2, []int{math.MinInt, math.MaxInt}[d(2)]
		}
		if s.kind == api.EvClose && d(5) > 0 {
			n = -1 // else most of what comes behind is told the same
		}
		l = append(l, s.event(who, d(6), n, d(200)-50, b))
	}
	return l
}

// meeting are the events by which two ends meet.
func meeting(t *testing.T) []api.Event {
	return events(t, "poll 0 9", "deliver 0", "poll 1 9", "deliver 0")
}
