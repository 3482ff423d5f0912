package desk_test

import (
	"bytes"
	"fmt"
	"math"
	"slices"
	"strings"
	"sync"
	"testing"

	"sheave/api"
	"sheave/desk"
	"sheave/ladder"
	"sheave/sample"
	"sheave/world"
)

// answers holds what Run answers to what a new world does, and is it.
func answers(t *testing.T, a, b api.Config, l []api.Event) []api.Answer {
	t.Helper()
	got, e := desk.Run(a, b, l)
	if e != api.OK || len(got) != len(l) {
		t.Fatalf("%d events: error %d, %d answers", len(l), e, len(got))
	}
	w := world.New(a, b)
	for i, x := range l {
		if want := w.Do(x); !alike(got[i], want) {
			t.Fatalf("the event %d, %+v: %+v, not %+v", i, x, got[i], want)
		}
	}
	return got
}

// looks is the line that Show tells of a look, by the state and the six numbers.
func looks(state int, numbers string) string { return fmt.Sprintf("0 %d %x", state, numbers) }

// P24.3: what is told of two ends that meet, digit by digit.
func TestRunAndShow(t *testing.T) {
	want := []string{
		"0 1 ", "0 0 ", "0 1 ", "0 0 ", looks(api.StOpen, "0 0 0 0 100 4"), looks(api.StOpen, "0 0 0 0 100 4"), "0 2 ", "0 1 ", "0 0 ", "140 0 ",
		"0 0 ", "140 0 ", "0 1 68", "0 1 69", "0 0 ", "1 0 ", "0 30 ", "1 0 ", "0 1 ", "0 0 ",
		"0 0 ", "201 0 ", "0 1 ", "0 0 ", "0 0 ", "4 0 ", "200 0 ", "110 0 ", "3 0 ", looks(api.StOpen, "30 2 1 0 100 0"),
		"0 0 ", "5 0 ", "0 0 ", looks(api.StClosed, "30 2 1 0 100 4"), "5 0 ",
	}
	if got := desk.Show(runs(t, play...)); got != strings.Join(want, "\n")+"\n" {
		for i, line := range strings.Split(got, "\n") {
			if i < len(want) && line != want[i] {
				t.Errorf("%s: %q, not %q", play[i], line, want[i])
			}
		}
	}
	a, b := configs()
	answers(t, a, b, events(t, play...))
}

// P24.3: no events, so many, and more.
func TestRunOfManyEvents(t *testing.T) {
	a, b := configs()
	if got := answers(t, a, b, nil); len(got) != 0 {
		t.Errorf("%+v", got)
	}
	answers(t, a, b, []api.Event{})
	tick := []api.Event{{Kind: api.EvTick, N: 2}}
	for _, many := range []int{1, 2047, 2048} {
		got := answers(t, a, b, slices.Repeat(tick, many))
		if last := got[many-1]; !alike(last, api.Answer{N: 2 * many}) {
			t.Errorf("%d events: %+v", many, last)
		}
	}
	for _, many := range []int{2049, 2050, 5000} {
		for _, e := range []api.Event{tick[0], {}} {
			if got, e := desk.Run(a, b, slices.Repeat([]api.Event{e}, many)); e != api.ErrLong || got != nil {
				t.Errorf("%d events: error %d, %d answers", many, e, len(got))
			}
		}
	}
}

// P24.3: events that a world refuses, and those that no line tells of, are answered as the world does.
func TestRunOfEventsThatAreRefused(t *testing.T) {
	a, b := configs()
	l := []api.Event{{}, {Kind: 15}, {Kind: -1}, {Kind: math.MinInt}, {Kind: math.MaxInt}, {Kind: api.EvDeliver}, {Kind: api.EvTick, N: -1},
		{Kind: api.EvInject, Bytes: make([]byte, 401)}, {Kind: api.EvInject}, {Kind: api.EvUpdate}, {Kind: api.EvClose, N: -1}}
	want := []api.Errno{1, 1, 1, 1, 1, 4, 1, 2, 3, 4, 1}
	for i, x := range answers(t, a, b, l) {
		if !alike(x, api.Answer{Code: want[i]}) {
			t.Errorf("%+v: %+v, not the error %d alone", l[i], x, want[i])
		}
	}
	for _, n := range []int{math.MinInt, -most - 1, most + 1, math.MaxInt} {
		var l []api.Event
		for _, s := range shapes() {
			for _, who := range []int{0, 1, 2, n} {
				l = append(l, s.event(who, n, n, n, []byte("bytes")), api.Event{Kind: s.kind, Who: who, Path: 1, N: n, M: n, Bytes: []byte("more")})
			}
		}
		answers(t, a, b, append(meeting(t), l...))
		answers(t, a, b, l)
	}
}

// P24.3: the ends are those of the configs: whichever role these say, whatever they know of each other, and by their policies.
func TestRunOfConfigs(t *testing.T) {
	a, b := configs()
	l := append(meeting(t), events(t, play[4:]...)...)
	want := desk.Show(answers(t, a, b, l))
	for _, role := range []int{-1, 0, 1, 2, math.MinInt, math.MaxInt} {
		x, y := a, b
		x.Role, y.Role = role, 1-role
		if got := desk.Show(answers(t, x, y, l)); got != want {
			t.Errorf("role %d: %s", role, got)
		}
	}
	x := a
	x.Public = api.Key{}
	if got := desk.Show(answers(t, x, b, events(t, "poll 0 9", "look 0 0"))); got != "20 0 \n0 4 302030203020302030203"+"0\n" {
		t.Errorf("%q", got)
	}
	x.Public = ladder.Public(api.Key{9})
	if got := answers(t, x, b, l); got[1].Code != api.ErrForged {
		t.Errorf("another end's key: %+v", got[1])
	}
	answers(t, b, a, l)
	answers(t, api.Config{}, api.Config{}, l)
	a.Policy, b.Policy = api.Turns, 77
	answers(t, a, b, l)
}

// P24.3, R8: two runs have nothing in common, even if they go on at the same time.
func TestRunsApart(t *testing.T) {
	a, b := configs()
	l := events(t, play...)
	want := desk.Show(answers(t, a, b, l))
	told := make([]string, 16)
	var all sync.WaitGroup
	for i := range told {
		all.Go(func() {
			got, _ := desk.Run(a, b, l)
			told[i] = desk.Show(got)
		})
	}
	all.Wait()
	for i, got := range told {
		if got != want {
			t.Errorf("the run %d is another one: %s", i, got)
		}
	}
	if got, want := desk.Show(runs(t, "look 0 0", "look 1 0")), looks(api.StBegin, "0 0 0 0 0 0")+"\n"; got != want+want {
		t.Errorf("a new world: %q", got)
	}
}

// P24.3: the chapter's example, of none, of each code, and of numbers of any size.
func TestShow(t *testing.T) {
	codes := []api.Errno{api.OK, api.ErrArg, api.ErrLong, api.ErrShort, api.ErrState, api.ErrClosed, api.ErrExhausted, api.ErrZero, api.ErrForged, api.ErrCode,
		api.ErrFrame, api.ErrPacket, api.ErrOld, api.ErrEpoch, api.ErrPath, api.ErrUsed, api.ErrScript}
	words := []string{"0", "1", "2", "3", "4", "5", "6", "20", "70", "90", "100", "110", "140", "150", "200", "201", "240"}
	shows := func(want string, l ...api.Answer) {
		t.Helper()
		if got := desk.Show(l); got != want {
			t.Errorf("%+v: %q, not %q", l, got, want)
		}
	}
	shows("0 1 61\n", api.Answer{N: 1, Bytes: []byte("a")})
	shows("")
	shows("0 0 \n", api.Answer{})
	shows("0 0 \n0 0 \n", api.Answer{}, api.Answer{Bytes: []byte{}})
	for i, code := range codes {
		shows(words[i]+" 0 \n", api.Answer{Code: code})
		shows(words[i]+" -7 00ff\n1 2 03\n", api.Answer{Code: code, N: -7, Bytes: []byte{0, 255}}, api.Answer{Code: 1, N: 2, Bytes: []byte{3}})
	}
	shows("-9223372036854775808 -9223372036854775808 \n", api.Answer{Code: math.MinInt, N: math.MinInt})
	shows("9223372036854775807 9223372036854775807 0a\n", api.Answer{Code: math.MaxInt, N: math.MaxInt, Bytes: []byte{10}})
	shows("-1 4611686018427387904 \n", api.Answer{Code: -1, N: 1 << 62})
	shows("0 -4611686018427387904 \n", api.Answer{N: -1 << 62})
	shows("5 10 "+strings.Repeat("5c", 70000)+"\n", api.Answer{Code: 5, N: 10, Bytes: bytes.Repeat([]byte{0x5c}, 70000)})
	shows(strings.Repeat("0 0 \n", 5000), make([]api.Answer, 5000)...)
}

// R7: what is handed in is neither changed nor kept, nor the room behind it; what is answered is the caller's own.
func TestWhatRunAndShowOwn(t *testing.T) {
	a, b := configs()
	l := withRoom(append(meeting(t), events(t, "write 0 68656c6c6f", "inject 1 00ff", "poll 0 9", "deliver 0", "read 1 9", "read 1 9", "look 0 0", "look 0 0")...),
		api.Event{Kind: 77})
	l[4].Bytes, l[5].Bytes = sample.Roomy(l[4].Bytes), sample.Roomy(l[5].Bytes)
	before, first, second := slices.Clone(l[:cap(l)]), sample.Whole(l[4].Bytes), sample.Whole(l[5].Bytes)
	got, e := desk.Run(a, b, l)
	want := "0 1 \n0 0 \n0 1 \n0 0 \n0 5 \n110 0 \n0 1 \n0 0 \n0 5 68656c6c6f\n0 0 \n" + strings.Repeat(looks(api.StOpen, "0 5 0 0 100 4")+"\n", 2)
	if e != api.OK || desk.Show(got) != want {
		t.Fatalf("error %d, %s", e, desk.Show(got))
	}
	if !sameAll(l[:cap(l)], before) || !bytes.Equal(sample.Whole(l[4].Bytes), first) || !bytes.Equal(sample.Whole(l[5].Bytes), second) {
		t.Error("what was handed in is changed")
	}
	sample.Spoil(l[4].Bytes)
	if desk.Show(got) != want {
		t.Error("what was handed in is kept")
	}
	sample.Spoil(l[4].Bytes)
	sample.Spoil(got[10].Bytes)
	sample.Spoil(got[8].Bytes)
	got[8].Bytes, got[10].Bytes = []byte("hello"), got[11].Bytes
	if desk.Show(got) != want {
		t.Error("two answers have something in common")
	}
	sample.Fill(got, api.Answer{Code: 9})
	again, _ := desk.Run(a, b, l)
	if desk.Show(again) != want {
		t.Error("what was answered is not the caller's own")
	}

	shown := withRoom(again, api.Answer{N: 5})
	shown[8].Bytes = sample.Roomy(shown[8].Bytes)
	room, all := sample.Whole(shown[8].Bytes), slices.Clone(shown[:cap(shown)])
	s := desk.Show(shown)
	if !slices.EqualFunc(shown[:cap(shown)], all, alike) || !bytes.Equal(sample.Whole(shown[8].Bytes), room) {
		t.Error("what Show was handed is changed")
	}
	sample.Spoil(shown[8].Bytes)
	sample.Fill(shown, api.Answer{})
	if s != want {
		t.Error("what Show was handed is kept")
	}
}
