package desk_test

import (
	"bytes"
	"math"
	"slices"
	"testing"

	"sheave/api"
	"sheave/desk"
	"sheave/sample"
)

// clonesOf are the same answers, with bytes of their own.
func clonesOf(l []api.Answer) []api.Answer {
	l = slices.Clone(l)
	for i := range l {
		l[i].Bytes = bytes.Clone(l[i].Bytes)
	}
	return l
}

// finds holds what Judge finds wrong in what was said of a play to what it must be.
func finds(t *testing.T, said []api.Answer, want ...api.Fault) {
	t.Helper()
	a, b := configs()
	if got := desk.Judge(a, b, events(t, play...), said); !slices.Equal(got, want) {
		t.Errorf("%+v, not %+v", got, want)
	}
}

// P24.4: what Run answers: nothing is found.
func TestJudgeOfWhatIsRight(t *testing.T) {
	right := runs(t, play...)
	finds(t, right)
	for i, x := range right { // nil or not, where there are none
		if len(x.Bytes) == 0 {
			right[i].Bytes = [][]byte{nil, {}}[i%2]
		}
	}
	finds(t, right)
	a, b := configs()
	for _, said := range [][]api.Answer{nil, {}} {
		for _, l := range [][]api.Event{nil, {}} {
			if got := desk.Judge(a, b, l, said); len(got) != 0 {
				t.Errorf("of nothing: %+v", got)
			}
		}
	}
}

// P24.4: of each answer another code, another number, other bytes.
func TestJudgeOfOtherAnswers(t *testing.T) {
	a, b := configs()
	l := events(t, "tick 5", "write 0 68656c6c6f", "read 1 9", "look 0 0", "write 2 00", "deliver 0", "look 1 7", "close 1 3", "tick 5")
	right := answers(t, a, b, l)
	for i, x := range right {
		with := func(change func(x *api.Answer), rule int) {
			t.Helper()
			said := clonesOf(right)
			change(&said[i])
			if got := desk.Judge(a, b, l, said); !slices.Equal(got, []api.Fault{{At: i, Rule: rule}}) {
				t.Errorf("%+v in the stead of %+v: %+v, not the rule %d at %d", said[i], x, got, rule, i)
			}
		}
		for _, n := range []int{1, -1, 256, 1 << 32, math.MinInt} {
			with(func(x *api.Answer) { x.Code += api.Errno(n) }, 1)
			with(func(x *api.Answer) { x.N += n }, 1)
			with(func(x *api.Answer) { x.Code, x.N = x.Code+api.Errno(n), x.N-n }, 1)
			with(func(x *api.Answer) { x.Code, x.Bytes = x.Code+api.Errno(n), append(x.Bytes, 1) }, 1)
			with(func(x *api.Answer) { x.N, x.Bytes = x.N+n, append(x.Bytes, 1) }, 1)
		}
		with(func(x *api.Answer) { x.Bytes = append(x.Bytes, 0) }, 2)
		with(func(x *api.Answer) { x.Bytes = append([]byte{0}, x.Bytes...) }, 2)
		with(func(x *api.Answer) { x.Bytes = append(x.Bytes, make([]byte, 5000)...) }, 2)
		for at := range x.Bytes {
			with(func(x *api.Answer) { x.Bytes[at] ^= 1 }, 2)
			with(func(x *api.Answer) { x.Bytes[at] ^= 0x80 }, 2)
			with(func(x *api.Answer) { x.Bytes = x.Bytes[:at] }, 2)
			with(func(x *api.Answer) { x.Bytes = x.Bytes[at+1:] }, 2)
		}
	}
}

// P24.4: several at once, in their order, each told once.
func TestJudgeOfSeveralFaults(t *testing.T) {
	said := runs(t, play...)
	said[0].N = 7
	said[1].Code = api.ErrArg
	said[4].Bytes = nil
	said[5].Bytes, said[5].N = nil, 9
	said[12].Bytes = []byte("i")
	said[34].Code = api.OK
	want := []api.Fault{{At: 0, Rule: 1}, {At: 1, Rule: 1}, {At: 4, Rule: 2}, {At: 5, Rule: 1}, {At: 12, Rule: 2}, {At: 34, Rule: 1}}
	finds(t, said, want...)
	finds(t, append(said, api.Answer{}), append(want, api.Fault{At: 35, Rule: 3})...)
	finds(t, said[:13], append(want[:5:5], api.Fault{At: 13, Rule: 3})...)
	var all []api.Fault
	for i := range said {
		said[i] = api.Answer{Code: -1}
		all = append(all, api.Fault{At: i, Rule: 1})
	}
	finds(t, said, all...)
}

// P24.4: fewer answers, and more: as far as both go they are held against each other.
func TestJudgeOfOtherCounts(t *testing.T) {
	right := runs(t, play...)
	for many := range right {
		finds(t, right[:many], api.Fault{At: many, Rule: 3})
	}
	finds(t, nil, api.Fault{At: 0, Rule: 3})
	for _, more := range []int{1, 2, 5, 2048, 5000} {
		finds(t, append(clonesOf(right), make([]api.Answer, more)...), api.Fault{At: len(right), Rule: 3})
	}
	a, b := configs()
	for _, more := range []int{1, 2, 3000} {
		if got := desk.Judge(a, b, nil, make([]api.Answer, more)); !slices.Equal(got, []api.Fault{{At: 0, Rule: 3}}) {
			t.Errorf("%d answers of no events: %+v", more, got)
		}
	}
}

// P24.4: nothing, if Run refuses, whatever was said; and so many events that it does not.
func TestJudgeOfManyEvents(t *testing.T) {
	a, b := configs()
	l := slices.Repeat([]api.Event{{Kind: api.EvTick, N: 1}}, 2049)
	for _, said := range [][]api.Answer{nil, {}, make([]api.Answer, 1), make([]api.Answer, 2048), make([]api.Answer, 2049), make([]api.Answer, 3000)} {
		if got := desk.Judge(a, b, l, said); len(got) != 0 {
			t.Errorf("%d answers: %+v", len(said), got)
		}
	}
	right := answers(t, a, b, l[:2048])
	if got := desk.Judge(a, b, l[:2048], right); len(got) != 0 {
		t.Errorf("%+v", got)
	}
	right[2047].N++
	if got := desk.Judge(a, b, l[:2048], append(right, api.Answer{})); !slices.Equal(got, []api.Fault{{At: 2047, Rule: 1}, {At: 2048, Rule: 3}}) {
		t.Errorf("%+v", got)
	}
}

// P24.4: answers of other ends are others.
func TestJudgeOfOtherEnds(t *testing.T) {
	a, b := configs()
	l := events(t, play...)
	right := answers(t, a, b, l)
	a.Public = api.Key{}
	if got := desk.Judge(a, b, l, right); !slices.Equal(got, faultsOf(answers(t, a, b, l), right)) || len(got) == 0 || got[0] != (api.Fault{At: 0, Rule: 1}) {
		t.Errorf("%+v", got)
	}
}

// R6, R7: what is handed in is neither changed nor kept, nor the room behind it; what is answered is the caller's own.
func TestWhatJudgeOwns(t *testing.T) {
	a, b := configs()
	l := withRoom(events(t, play...), api.Event{Kind: 77})
	l[6].Bytes = sample.Roomy(l[6].Bytes)
	said := withRoom(answers(t, a, b, l), api.Answer{N: 4})
	said[4].Bytes = sample.Roomy(said[4].Bytes)
	said[7].N, said[20].Bytes = 9, []byte{1}
	allEvents, allSaid := slices.Clone(l[:cap(l)]), slices.Clone(said[:cap(said)])
	event, answer := sample.Whole(l[6].Bytes), sample.Whole(said[4].Bytes)
	want := []api.Fault{{At: 7, Rule: 1}, {At: 20, Rule: 2}}
	got := desk.Judge(a, b, l, said)
	if !slices.Equal(got, want) {
		t.Fatalf("%+v", got)
	}
	if !sameAll(l[:cap(l)], allEvents) || !slices.EqualFunc(said[:cap(said)], allSaid, alike) {
		t.Error("what was handed in is changed")
	}
	if !bytes.Equal(sample.Whole(l[6].Bytes), event) || !bytes.Equal(sample.Whole(said[4].Bytes), answer) {
		t.Error("bytes that were handed in are changed")
	}
	sample.Fill(got, api.Fault{At: 99})
	if got := desk.Judge(a, b, l, said); !slices.Equal(got, want) {
		t.Errorf("the second time: %+v", got)
	}
}
