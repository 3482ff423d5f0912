package desk_test

import (
	"slices"
	"strings"
	"testing"

	"sheave/api"
	"sheave/desk"
	"sheave/sample"
)

// P24.5: Parse of Print is the events, over many that are drawn; their script is the one that the chapter's table says.
func TestParseOfPrint(t *testing.T) {
	t.Parallel()
	for seed := range uint64(400) {
		d := sample.Draw(seed)
		l := scriptLike(d, d(300))
		s, e := desk.Print(l)
		if e != api.OK || s != script(l) {
			t.Fatalf("seed %d: error %d, %q", seed, e, brief(s))
		}
		reads(t, s, l...)
		if len(s) > 0 {
			reads(t, s[:len(s)-1], l...)
		}
	}
}

// P24.5, and the other way round: Print of Parse is the script, but for the last LF, over many that are drawn.
func TestPrintOfParse(t *testing.T) {
	t.Parallel()
	for seed := range uint64(400) {
		d := sample.Draw(seed + 1000)
		s := script(scriptLike(d, 1+d(300)))
		x, line, e := desk.Parse(s[:len(s)-d(2)])
		if e != api.OK || line != 0 {
			t.Fatalf("seed %d: line %d, error %d", seed, line, e)
		}
		prints(t, x, s)
	}
}

// P24.2: scripts in which something is another thing than a line has: what is told is what the chapter's words say; and what is a script
// all the same is the one that its events have.
func TestScriptsWithSlips(t *testing.T) {
	t.Parallel()
	slips := []string{" ", "\n", "-", "0", "00", "1", "a", "A", "\r", "x", "\x00", "\xff", "tick 5\n", "\nwrite 0", "", "9999999999999999999"}
	none, is := 0, 0
	for seed := range uint64(4000) {
		d := sample.Draw(seed + 2000)
		s := script(scriptLike(d, 1+d(12)))
		for range 1 + d(2) {
			at := d(len(s) + 1)
			s = s[:at] + slips[d(len(slips))] + s[min(at+d(3), len(s)):]
		}
		holdsTo(t, s)
		l, _, e := desk.Parse(s)
		if e != api.OK {
			none++
			continue
		}
		is++
		prints(t, l, strings.TrimSuffix(s, "\n")+"\n"[:min(len(s), 1)])
	}
	if none < 1000 || is < 300 {
		t.Errorf("%d are none, and %d are scripts", none, is)
	}
}

// P24.3, P24.5, T6: events that are drawn tell the same as the script of them, each time; Judge finds nothing wrong with that, and what is
// wrong it finds.
func TestRunAndJudge(t *testing.T) {
	t.Parallel()
	bytesRead := 0
	for seed := range uint64(40) {
		d := sample.Draw(seed + 9000)
		a, b := configs()
		a.Policy, b.Policy, a.Draw[5] = d(2), d(2), byte(seed)
		var l []api.Event
		if seed%4 != 0 { // else the handshake is among what is drawn
			l = meeting(t)
		}
		l = append(l, worldLike(d, 400)...)
		right := answers(t, a, b, l)
		for i, x := range right {
			if l[i].Kind == api.EvRead {
				bytesRead += len(x.Bytes)
			}
		}
		judges(t, a, b, l, right)
		l = slices.DeleteFunc(l, func(e api.Event) bool { _, code := desk.Print([]api.Event{e}); return code != api.OK })
		for len(script(l)) > 65536 {
			l = l[:len(l)-1]
		}
		s, e := desk.Print(l)
		if e != api.OK {
			t.Fatalf("seed %d: error %d", seed, e)
		}
		x := events(t, s)
		told, _ := desk.Run(a, b, x)
		again, _ := desk.Run(a, b, x)
		if want := desk.Show(answers(t, a, b, l)); desk.Show(told) != want || desk.Show(again) != want {
			t.Fatalf("seed %d: the script tells another thing than its events", seed)
		}
		judges(t, a, b, x, told)
		said := slips(d, told)
		if got, want := desk.Judge(a, b, x, said), faultsOf(told, said); !slices.Equal(got, want) {
			t.Fatalf("seed %d: %+v, not %+v", seed, got, want)
		}
	}
	if bytesRead < 40*200 {
		t.Errorf("%d bytes were read in all", bytesRead)
	}
}

// judges holds that Judge finds nothing.
func judges(t *testing.T, a, b api.Config, l []api.Event, said []api.Answer) {
	t.Helper()
	if got := desk.Judge(a, b, l, said); len(got) != 0 {
		t.Fatalf("%+v", got)
	}
}

// slips are answers of which some are others, some may be missing at the end, and some be too many.
func slips(d func(below int) int, l []api.Answer) []api.Answer {
	l = clonesOf(l)
	for range d(8) {
		x := &l[d(len(l))]
		switch d(5) {
		case 0:
			x.Code += api.Errno(d(3) - 1)
		case 1:
			x.N += d(3) - 1
		case 2:
			x.Bytes = append(x.Bytes, 0)
		case 3:
			x.Bytes = nil
		case 4:
			*x = l[d(len(l))]
		}
	}
	if d(2) == 0 {
		return append(l[:len(l)-d(3)], make([]api.Answer, d(3))...)
	}
	return l
}

// P24.5, T6: a script that says all that there is to be said, of each kind.
func TestThePlayIsTheSameEachTime(t *testing.T) {
	a, b := configs()
	l := events(t, play...)
	prints(t, l, strings.Join(play, "\n")+"\n")
	want := desk.Show(answers(t, a, b, l))
	for range 3 {
		said := runs(t, play...)
		if desk.Show(said) != want {
			t.Error("another time another thing is told")
		}
		finds(t, said)
	}
}

func BenchmarkParse(b *testing.B) {
	s := script(scriptLike(sample.Draw(1), 1000))
	b.SetBytes(int64(len(s)))
	for b.Loop() {
		desk.Parse(s)
	}
}

func BenchmarkPrint(b *testing.B) {
	l := scriptLike(sample.Draw(1), 1000)
	b.SetBytes(int64(len(script(l))))
	for b.Loop() {
		desk.Print(l)
	}
}

func BenchmarkRun(b *testing.B) {
	x, y := configs()
	l, _, _ := desk.Parse(strings.Join(play, "\n"))
	for b.Loop() {
		desk.Run(x, y, l)
	}
}
