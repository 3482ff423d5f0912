package desk_test

import (
	"fmt"
	"math"
	"slices"
	"strings"
	"testing"

	"sheave/api"
	"sheave/desk"
	"sheave/sample"
)

// P24.2: the chapter's examples.
func TestParseExamples(t *testing.T) {
	reads(t, "write 0 6869\npoll 0 9\n", api.Event{Kind: api.EvWrite, Bytes: []byte("hi")}, api.Event{Kind: api.EvPoll, N: 9})
	for _, s := range []string{"write 0 6", "read  0 1", "tick 01"} {
		isNone(t, s, 1)
	}
}

// P24.2: nothing has no lines, a LF ends one, and the last line may lack it.
func TestLFs(t *testing.T) {
	five := api.Event{Kind: api.EvTick, N: 5}
	reads(t, "")
	reads(t, "tick 5", five)
	reads(t, "tick 5\n", five)
	reads(t, "tick 5\ntick 5", five, five)
	reads(t, "tick 5\ntick 5\n", five, five)
	for s, line := range map[string]int{
		"\n": 1, "\n\n": 1, "\n\n\n": 1, "\ntick 5": 1, "\ntick 5\n": 1, "tick 5\n\n": 2, "tick 5\n\ntick 5": 2, "tick 5\n\ntick 5\n": 2,
		"tick 5\ntick 5\n\n": 3, "tick 5\n\n\n": 2, "\r\n": 1, "tick 5\n\r\n": 2, " ": 1, "tick 5\n ": 2, "tick 5\r": 1, "tick 5\rtick 5": 1,
	} {
		isNone(t, s, line)
	}
}

// P24.2: each line of the table, written out.
func TestLines(t *testing.T) {
	for s, want := range map[string]api.Event{
		"write 1 00ff7a":               {Kind: api.EvWrite, Who: 1, Bytes: []byte{0, 255, 'z'}},
		"write 1":                      {Kind: api.EvWrite, Who: 1},
		"read 1 9":                     {Kind: api.EvRead, Who: 1, N: 9},
		"tick 20":                      {Kind: api.EvTick, N: 20},
		"poll 0 -1":                    {Kind: api.EvPoll, N: -1},
		"deliver 3":                    {Kind: api.EvDeliver, N: 3},
		"drop 4":                       {Kind: api.EvDrop, N: 4},
		"double 5":                     {Kind: api.EvDouble, N: 5},
		"turn 6 7":                     {Kind: api.EvTurn, N: 6, M: 7},
		"add 1 3 77":                   {Kind: api.EvAdd, Who: 1, Path: 3, M: 77},
		"remove 1 3":                   {Kind: api.EvRemove, Who: 1, Path: 3},
		"update 1":                     {Kind: api.EvUpdate, Who: 1},
		"close 1 8":                    {Kind: api.EvClose, Who: 1, N: 8},
		"inject 1 0123456789abcdef":    {Kind: api.EvInject, Who: 1, Bytes: sample.Hex("0123456789abcdef")},
		"inject 0":                     {Kind: api.EvInject},
		"look 1 255":                   {Kind: api.EvLook, Who: 1, Path: 255},
		"write 6869":                   {Kind: api.EvWrite, Who: 6869}, // a number, if it stands where one does
		"look -5 -4611686018427387903": {Kind: api.EvLook, Who: -5, Path: -most},
	} {
		reads(t, s, want)
		reads(t, s+"\n", want)
		prints(t, []api.Event{want}, s+"\n")
	}
}

// withWord is a line with one word more, at a place.
func withWord(line, word string, at int) string {
	return strings.Join(slices.Insert(strings.Split(line, " "), at, word), " ")
}

// without is a line with one word less.
func without(line string, at int) string {
	return strings.Join(slices.Delete(strings.Split(line, " "), at, at+1), " ")
}

// P24.2: of each line of the table those that are nearly it.
func TestLinesThatAreNone(t *testing.T) {
	for i, s := range shapes() {
		line := s.line(meant()[i])
		words := strings.Split(line, " ")
		none := []string{line + " ", " " + line, line + " 0", line + " 00", line + "\r", line + "\x00", line + "\x80", line + "é", line + "\t", line + " x",
			strings.ToUpper(line), strings.ToUpper(line[:1]) + line[1:], line[1:], s.word[:len(s.word)-1] + line[len(s.word):],
			s.word + s.word[len(s.word)-1:] + line[len(s.word):], "x" + line, s.word, s.word + " ", line + " " + line, "\x00" + line, "\xff" + line,
			"\ufeff" + line, words[0] + "s" + line[len(words[0]):], strings.Replace(line, " ", "\t", 1), strings.Replace(line, " ", "\u00a0", 1),
			strings.Replace(line, " ", "", 1), strings.Replace(line, " ", ",", 1)}
		for at := range words {
			none = append(none, withWord(line, "", at), withWord(line, "x", at))
			if words[at] != "ab0c" { // bytes may be none
				none = append(none, without(line, at))
			}
		}
		for at := 1; at < len(line); at++ {
			if line[at] == ' ' {
				none = append(none, line[:at]+" "+line[at:])
			}
		}
		for _, x := range none {
			isNone(t, x, 1)
			isNone(t, x+"\n", 1)
			isNone(t, "tick 1\nupdate 0\n"+x+"\ntick 1\n", 3)
		}
	}
	for _, s := range []string{"jump", "jump 0", "0", "write0", "tick", "tick5", "5 tick", "tick 5 tick 5", "tick 5;", "# tick 5", "write 0 68 69", "write 0 68 6",
		"update 0 00", "tick 5 00", "read 0 1 00", "look 0 0 00", "Write 0", "wRite 0", "writ 0", "writee 0", "EvTick 5", "3 5", "tick five", "tick 0x5", "tick 5.0",
		"tick 1e3", "tick 1_000", "tick ٥"} {
		isNone(t, s, 1)
	}
}

// holdsTo holds what Parse tells of a script to the chapter's words.
func holdsTo(t *testing.T, s string) {
	t.Helper()
	want, at, code := scriptSays(s)
	l, line, e := desk.Parse(s)
	if e != code || line != at || !sameAll(l, want) || e != api.OK && l != nil {
		t.Errorf("%q: %+v, line %d, error %d, not %+v, line %d, error %d", brief(s), l[:min(len(l), 9)], line, e, want[:min(len(want), 9)], at, code)
	}
}

// P24.2: each line of the table with each byte in the stead of each of its own, ahead of each, and behind the last, and with each one taken
// away.
func TestLinesWithAnotherByte(t *testing.T) {
	t.Parallel()
	for i, s := range shapes() {
		line := s.line(meant()[i]) + "\n"
		for at := range len(line) {
			holdsTo(t, "tick 1\n"+line[:at]+line[at+1:]+"tick 2")
			for x := range 256 {
				c := string([]byte{byte(x)})
				holdsTo(t, "tick 1\n"+line[:at]+c+line[at:]+"tick 2")
				holdsTo(t, "tick 1\n"+line[:at]+c+line[at+1:]+"tick 2")
			}
		}
	}
}

// told are numbers as words, and whether a line can say them so.
var told = []struct {
	word string
	is   bool
	n    int
}{
	{"0", true, 0}, {"1", true, 1}, {"-1", true, -1}, {"9", true, 9}, {"10", true, 10}, {"-10", true, -10}, {"2147483648", true, 1 << 31},
	{"-2147483649", true, -1<<31 - 1}, {"4294967296", true, 1 << 32}, {"4611686018427387902", true, most - 1}, {"4611686018427387903", true, most},
	{"-4611686018427387903", true, -most}, {"-4611686018427387902", true, -most + 1},
	{word: "-0"}, {word: "00"}, {word: "01"}, {word: "-01"}, {word: "-00"}, {word: "+1"}, {word: "+0"}, {word: "-"}, {word: "+"}, {word: "--1"}, {word: "+-1"},
	{word: ""}, {word: "1-"}, {word: "1 "}, {word: " 1"}, {word: "4611686018427387904"}, {word: "-4611686018427387904"}, {word: "-4611686018427387905"},
	{word: "9223372036854775807"}, {word: "9223372036854775808"}, {word: "-9223372036854775808"}, {word: "-9223372036854775809"},
	{word: "18446744073709551616"}, {word: "18446744073709551617"}, {word: "-18446744073709551617"}, {word: "04611686018427387903"},
	{word: strings.Repeat("9", 100)}, {word: "-" + strings.Repeat("9", 100)}, {word: "1" + strings.Repeat("0", 99)}, {word: strings.Repeat("0", 99) + "1"},
	{word: strings.Repeat("0", 100)}, {word: "1a"}, {word: "a"}, {word: "0x1"}, {word: "0b1"}, {word: "0o7"}, {word: "1_0"}, {word: "1.0"}, {word: "1e1"},
	{word: "１"}, {word: "1\x00"}, {word: "\x001"}, {word: "1\r"}, {word: "−1"}, {word: "1,000"}, {word: "Inf"}, {word: "NaN"},
}

// P24.2: numbers, in each place that says one.
func TestNumbers(t *testing.T) {
	for i, s := range shapes() {
		for at, field := range s.says {
			if field == "Bytes" {
				continue
			}
			for _, x := range told {
				want := meant()[i]
				words := strings.Split(s.line(want), " ")
				words[at+1] = x.word
				line := strings.Join(words, " ")
				if x.is {
					*place(&want, field) = x.n
					reads(t, "tick 3\n"+line+"\n", api.Event{Kind: api.EvTick, N: 3}, want)
				} else {
					isNone(t, "tick 3\n"+line+"\n", 2)
				}
				if at == len(s.says)-1 && x.word == "" {
					isNone(t, line, 1) // with the blank ahead of it
				}
			}
		}
	}
}

// P24.2: Who is any number, whatever a world would say of it.
func TestWhoOfAnyNumber(t *testing.T) {
	for _, s := range shapes() {
		for _, who := range []int{-most, -2, -1, 0, 1, 2, 3, 256, 1 << 32, most} {
			if s.names("Who") {
				e := s.event(who, 1, 2, 3, []byte{4})
				reads(t, s.line(e), e)
			}
		}
	}
}

// P24.2: bytes, of those lines that say some.
func TestBytesInLines(t *testing.T) {
	for kind, word := range map[int]string{api.EvWrite: "write 1", api.EvInject: "inject 1"} {
		reads(t, word, api.Event{Kind: kind, Who: 1})
		for _, many := range []int{1, 2, 64, 400, 401, 5000} {
			b := sample.Drawn(uint64(many), many)
			s := fmt.Sprintf("%s %x", word, b)
			reads(t, s+"\n"+s, api.Event{Kind: kind, Who: 1, Bytes: b}, api.Event{Kind: kind, Who: 1, Bytes: b})
			isNone(t, s[:len(s)-1], 1)
			isNone(t, s+"0", 1)
			isNone(t, s+" ", 1)
			isNone(t, s+"F0", 1)
			isNone(t, strings.Replace(s, "1 ", "1  ", 1), 1)
		}
		for _, s := range []string{" ", "  ", " 0", " 0 0", " 00 00", " AA", " aA", " Aa", " 0g", " g0", " -1", " 0x", " \x8000", " é", " 00\r", "\t00"} {
			isNone(t, word+s, 1)
			isNone(t, word+s+"\n", 1)
		}
	}
}

// P24.2: of several lines that are none the first is told, and nothing else.
func TestWhichLineIsTold(t *testing.T) {
	const many = 40
	for first := range many {
		for _, behind := range [][]int{nil, {1}, {3, 4}, {many - 1 - first}, {1, 2, many - 1 - first}} {
			lines := slices.Repeat([]string{"write 0 6869"}, many)
			for _, more := range behind {
				lines[min(first+more, many-1)] = ""
			}
			lines[first] = "wait 0"
			isNone(t, strings.Join(lines, "\n")+"\n", first+1)
		}
	}
}

// P24.2: scripts of so many bytes, and more.
func TestScriptsOfManyBytes(t *testing.T) {
	whole := func(head string, many int) string { return head + strings.Repeat("5c", (many-len(head))/2) }
	one := func(who, many int) api.Event {
		return api.Event{Kind: api.EvWrite, Who: who, Bytes: slices.Repeat([]byte{0x5c}, many)}
	}
	s := whole("write 0 ", 65536)
	if len(s) != 65536 {
		t.Fatal(len(s))
	}
	reads(t, s, one(0, 32764))
	isTooLong(t, s+"\n")
	isTooLong(t, s+"\nx")
	isTooLong(t, s+"00")
	s = whole("write -1 ", 65535) + "\n"
	if len(s) != 65536 {
		t.Fatal(len(s))
	}
	reads(t, s, one(-1, 32763))
	reads(t, s[:65535], one(-1, 32763))
	isTooLong(t, s+"\n")
	isTooLong(t, s+"t")
	isTooLong(t, s+"tick 1\n")

	isNone(t, strings.Repeat("x", 65536), 1)
	isTooLong(t, strings.Repeat("x", 65537))
	isTooLong(t, strings.Repeat("x", 1<<20))
	isNone(t, strings.Repeat(" ", 65536), 1)
	isTooLong(t, strings.Repeat(" ", 65537))
	isNone(t, "tick 1\n"+strings.Repeat("x", 65529), 2)
	isTooLong(t, "tick 1\n"+strings.Repeat("x", 65530))
	isNone(t, "tick "+strings.Repeat("1", 65531), 1)
	isTooLong(t, "\n"+strings.Repeat("x", 65536))
}

// P24.2: scripts of so many lines, and more, with the last LF and without.
func TestScriptsOfManyLines(t *testing.T) {
	one := api.Event{Kind: api.EvTick, N: 1}
	for _, many := range []int{1, 2, 2047, 2048} {
		s := strings.Repeat("tick 1\n", many)
		reads(t, s, slices.Repeat([]api.Event{one}, many)...)
		reads(t, s[:len(s)-1], slices.Repeat([]api.Event{one}, many)...)
	}
	s := strings.Repeat("tick 1\n", 2048)
	for _, more := range []string{"tick 1\n", "tick 1", "\n", "x", " ", "tick 1\ntick 1\n", "\n\n"} {
		isTooLong(t, s+more)
	}
	s = s[:len(s)-7]
	isNone(t, s+"\n", 2048)
	isNone(t, s+"x", 2048)
	isNone(t, s+" \n", 2048)
	isTooLong(t, s+"\n\n")
	isTooLong(t, s+"x\ny")
	isNone(t, "x\n"+s, 1)
	isTooLong(t, "x\n"+s+"tick 1")
	isNone(t, strings.Repeat("\n", 2048), 1)
	isTooLong(t, strings.Repeat("\n", 2049))
	isTooLong(t, strings.Repeat("\n", 65536))
	isTooLong(t, strings.Repeat("\n", 65537))
	isNone(t, strings.Repeat("x\n", 2047)+"x", 1)
	isTooLong(t, strings.Repeat("x\n", 2048)+"x")
}

// R6, R7, R8: each time the same; what is answered is the caller's own, and no two events have something in common.
func TestWhatParseAnswers(t *testing.T) {
	s := "write 0 6869\ninject 1 6869\nwrite 0 6869\ntick 5\nwrite 1 6a"
	x := events(t, s)
	for i := range x {
		y := events(t, s)
		sample.Spoil(y[i].Bytes)
		y[i].Bytes = x[i].Bytes
		if !sameAll(x, y) {
			t.Errorf("the bytes of the event %d are those of others, too", i)
		}
	}
	sample.Fill(x, api.Event{Kind: math.MaxInt})
	reads(t, s, events(t, s)...)
}
