package desk_test

import (
	"bytes"
	"math"
	"runtime"
	"slices"
	"strings"
	"testing"

	"sheave/api"
	"sheave/desk"
	"sheave/sample"
)

// P24.2: the chapter's example.
func TestPrintExample(t *testing.T) {
	prints(t, []api.Event{{Kind: api.EvTick, N: 5}, {Kind: api.EvTurn, N: 1, M: -1}, {Kind: api.EvWrite}}, "tick 5\nturn 1 -1\nwrite 0\n")
}

// P24.2: none, and each kind as it is meant.
func TestPrint(t *testing.T) {
	prints(t, nil, "")
	prints(t, []api.Event{}, "")
	prints(t, meant(), `write 1 ab0c
read 1 -12
tick -12
poll 1 -12
deliver -12
drop -12
double -12
turn -12 345
add 1 7 345
remove 1 7
update 1
close 1 -12
inject 1 ab0c
look 1 7
`)
	for i, s := range shapes() {
		prints(t, meant()[i:i+1], s.line(meant()[i])+"\n")
		empty := api.Event{Kind: s.kind, Bytes: []byte{}}
		prints(t, []api.Event{{Kind: s.kind}, empty}, s.line(empty)+"\n"+s.line(empty)+"\n")
	}
	for _, kind := range []int{api.EvWrite, api.EvInject} {
		for _, many := range []int{1, 2, 400, 401, 9000} {
			l := []api.Event{{Kind: kind, Who: 1, Bytes: sample.Drawn(uint64(many), many)}}
			prints(t, l, script(l))
		}
	}
}

// P24.2: kinds that are none, whatever else the event has.
func TestPrintOfKindsThatAreNone(t *testing.T) {
	tick := api.Event{Kind: api.EvTick}
	for _, kind := range []int{0, 15, 16, -1, -3, math.MinInt, math.MaxInt, 256 + 3, 1<<32 + 3} {
		for _, e := range []api.Event{{}, {N: 5}, {Who: 1, Path: 2, N: 3, M: 4, Bytes: []byte{5}}} {
			e.Kind = kind
			refuses(t, api.ErrArg, e)
			refuses(t, api.ErrArg, tick, e)
			refuses(t, api.ErrArg, e, tick)
			refuses(t, api.ErrArg, tick, tick, e, tick)
		}
	}
}

// P24.2: of each kind each field that its row does not name.
func TestPrintOfWhatIsNotTold(t *testing.T) {
	for i, s := range shapes() {
		for _, from := range []api.Event{meant()[i], {Kind: s.kind}} {
			for _, field := range numbers {
				for _, n := range []int{1, -1, 2, 256, 1 << 32, most, most + 1, -most, -most - 1, math.MinInt, math.MaxInt} {
					e := from
					*place(&e, field) = n
					if !s.names(field) {
						refuses(t, api.ErrArg, e)
						refuses(t, api.ErrArg, meant()[0], e, meant()[1])
					} else if n >= -most && n <= most {
						prints(t, []api.Event{e}, s.line(e)+"\n")
					} else {
						refuses(t, api.ErrArg, e)
					}
				}
			}
			for _, b := range [][]byte{{0}, {1}, []byte("some"), make([]byte, 500)} {
				e := from
				e.Bytes = b
				if s.names("Bytes") {
					prints(t, []api.Event{e}, s.line(e)+"\n")
				} else {
					refuses(t, api.ErrArg, e)
				}
			}
		}
	}
}

// P24.2: numbers at both bounds, and beyond, in each place that says one.
func TestPrintOfNumbers(t *testing.T) {
	for i, s := range shapes() {
		for _, field := range s.says {
			if field == "Bytes" {
				continue
			}
			for _, n := range []int{0, 1, -1, 9, 10, -10, most - 1, most, -most, -most + 1, 1 << 32, -1 << 32, 1 << 61} {
				e := meant()[i]
				*place(&e, field) = n
				prints(t, []api.Event{e}, s.line(e)+"\n")
			}
			for _, n := range []int{most + 1, -most - 1, most + 2, -most - 2, math.MinInt, math.MinInt + 1, math.MaxInt, math.MaxInt - 1} {
				e := meant()[i]
				*place(&e, field) = n
				refuses(t, api.ErrArg, e)
				refuses(t, api.ErrArg, meant()[3], meant()[4], e)
			}
		}
	}
}

// P24.2: so many events, and more.
func TestPrintOfManyEvents(t *testing.T) {
	one := []api.Event{{Kind: api.EvTick, N: 7}}
	for _, many := range []int{1, 2, 2047, 2048} {
		prints(t, slices.Repeat(one, many), strings.Repeat("tick 7\n", many))
	}
	for _, many := range []int{2049, 2050, 4096, 100000} {
		refuses(t, api.ErrLong, slices.Repeat(one, many)...)
	}
}

// long are events whose script has so many bytes: by the bytes that are written in the first of them.
func long(t *testing.T, bytes int, others ...api.Event) []api.Event {
	t.Helper()
	l := append([]api.Event{{Kind: api.EvWrite}}, others...)
	for _, who := range []int{1, -1} { // one digit more or less, since bytes have two each
		l[0].Who = who
		left := bytes - len(script(l)) - 1
		if left%2 == 0 {
			l[0].Bytes = sample.Drawn(uint64(bytes), left/2)
			return l
		}
	}
	t.Fatal(bytes)
	return nil
}

// P24.2: scripts of so many bytes, and more.
func TestPrintOfManyBytes(t *testing.T) {
	for _, others := range [][]api.Event{nil, meant(), slices.Repeat(meant(), 100), slices.Repeat([]api.Event{{Kind: api.EvUpdate}}, 2047)} {
		for _, many := range []int{65534, 65535, 65536} {
			l := long(t, many, others...)
			s := script(l)
			if len(s) != many {
				t.Fatalf("%d bytes, not %d", len(s), many)
			}
			prints(t, l, s)
		}
		for _, many := range []int{65537, 65538, 65539, 65540, 70000, 131072, 131073} {
			refuses(t, api.ErrLong, long(t, many, others...)...)
			x := long(t, many, others...)
			slices.Reverse(x)
			refuses(t, api.ErrLong, x...)
		}
	}
	// Of numbers alone.
	widest := api.Event{Kind: api.EvAdd, Who: -most, Path: -most, M: -most}
	each := len(script([]api.Event{widest}))
	fits := 65536 / each
	prints(t, slices.Repeat([]api.Event{widest}, fits), strings.Repeat(script([]api.Event{widest}), fits))
	refuses(t, api.ErrLong, slices.Repeat([]api.Event{widest}, fits+1)...)
	refuses(t, api.ErrLong, slices.Repeat([]api.Event{widest}, 2048)...)
	l := append(slices.Repeat([]api.Event{widest}, fits), long(t, 65536-fits*each)...)
	prints(t, l, script(l))
	refuses(t, api.ErrLong, append(slices.Repeat([]api.Event{widest}, fits), long(t, 65537-fits*each)...)...)
}

// P24.2: bytes that come to far more than a script may have are refused, and not told ahead of that, however many events have them.
func TestPrintOfFarTooManyBytes(t *testing.T) {
	b := make([]byte, 1<<17)
	for _, l := range [][]api.Event{
		slices.Repeat([]api.Event{{Kind: api.EvInject, Bytes: b}}, 2048), {{Kind: api.EvWrite, Bytes: b[:32768]}},
		slices.Repeat([]api.Event{{Kind: api.EvWrite, Bytes: b[:1<<16]}}, 2048), slices.Repeat([]api.Event{{Kind: api.EvWrite, Bytes: b[:16]}}, 2048),
	} {
		before := made()
		refuses(t, api.ErrLong, l...)
		if got := made() - before; got > 1<<22 {
			t.Errorf("%d events of %d bytes: %d bytes were made", len(l), len(l[0].Bytes), got)
		}
	}
}

// made is how many bytes the tests made so far.
func made() uint64 {
	var m runtime.MemStats
	runtime.ReadMemStats(&m)
	return m.TotalAlloc
}

// P24.2: which error is told, if several apply: too many events, ahead of what no line tells of, ahead of too many bytes.
func TestWhichErrorPrintTells(t *testing.T) {
	none := []api.Event{{}, {Kind: 15}, {Kind: api.EvTick, N: most + 1}, {Kind: api.EvTick, M: 1}, {Kind: api.EvTick, Bytes: []byte{1}},
		{Kind: api.EvTick, Bytes: make([]byte, 70000)}, {Kind: api.EvWrite, N: 1, Bytes: make([]byte, 70000)}}
	for _, e := range none {
		refuses(t, api.ErrLong, slices.Repeat([]api.Event{e}, 2049)...)
		refuses(t, api.ErrArg, slices.Repeat([]api.Event{e}, 2048)...)
		refuses(t, api.ErrArg, append(long(t, 65537), e)...)
		refuses(t, api.ErrArg, append([]api.Event{e}, long(t, 65537)...)...)
		refuses(t, api.ErrArg, append(long(t, 100000, meant()...), e)...)
		refuses(t, api.ErrLong, append(slices.Repeat(long(t, 65537), 2048), e)...)
		refuses(t, api.ErrArg, append(slices.Repeat(long(t, 65537), 2047), e)...)
	}
}

// R6, R7: what is handed in is neither changed nor kept, nor the room behind it.
func TestWhatPrintIsHanded(t *testing.T) {
	l := withRoom(meant(), api.Event{Kind: 99, N: 5})
	for i := range l {
		if len(l[i].Bytes) > 0 {
			l[i].Bytes = sample.Roomy(l[i].Bytes)
		}
	}
	before := slices.Clone(l[:cap(l)])
	var room [][]byte
	for _, e := range l {
		room = append(room, sample.Whole(e.Bytes))
	}
	want := script(l)
	s, e := desk.Print(l)
	if e != api.OK || s != want {
		t.Fatalf("error %d, %q", e, s)
	}
	if !sameAll(l[:cap(l)], before) {
		t.Error("what was handed in is changed")
	}
	for i, e := range l {
		if !bytes.Equal(sample.Whole(e.Bytes), room[i]) {
			t.Errorf("the bytes of the event %d are changed", i)
		}
		sample.Spoil(e.Bytes)
	}
	sample.Fill(l, api.Event{})
	if s != want {
		t.Error("what was handed in is kept")
	}
	prints(t, meant(), want)
}
