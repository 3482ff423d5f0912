package desk_test

import (
	"encoding/hex"
	"fmt"
	"math/big"
	"regexp"
	"slices"
	"strings"

	"sheave/api"
)

// table is the chapter's, in the order of the kinds.
const table = `write Who Bytes
read Who N
tick N
poll Who N
deliver N
drop N
double N
turn N M
add Who Path M
remove Who Path
update Who
close Who N
inject Who Bytes
look Who Path`

// shape is one of its rows.
type shape struct {
	kind int
	word string
	says []string
}

func shapes() []shape {
	var l []shape
	for i, line := range strings.Split(table, "\n") {
		words := strings.Fields(line)
		l = append(l, shape{i + 1, words[0], words[1:]})
	}
	return l
}

// numbers are the names of the fields that are numbers.
var numbers = []string{"Who", "Path", "N", "M"}

func (s shape) names(field string) bool { return slices.Contains(s.says, field) }

// place is where an event has a number.
func place(e *api.Event, field string) *int {
	return map[string]*int{"Who": &e.Who, "Path": &e.Path, "N": &e.N, "M": &e.M}[field]
}

// event is one of this kind, with those of the fields that its row names.
func (s shape) event(who, path, n, m int, b []byte) api.Event {
	all := api.Event{Who: who, Path: path, N: n, M: m}
	e := api.Event{Kind: s.kind}
	for _, field := range s.says {
		if field == "Bytes" {
			e.Bytes = b
		} else {
			*place(&e, field) = *place(&all, field)
		}
	}
	return e
}

// line is the one that tells of an event of this kind, without its LF.
func (s shape) line(e api.Event) string {
	line := s.word
	for _, field := range s.says {
		if field != "Bytes" {
			line += fmt.Sprintf(" %d", *place(&e, field))
		} else if len(e.Bytes) > 0 {
			line += fmt.Sprintf(" %x", e.Bytes)
		}
	}
	return line
}

// script are the lines that tell of events, each with its LF.
func script(l []api.Event) string {
	var s strings.Builder
	for _, e := range l {
		s.WriteString(shapes()[e.Kind-1].line(e) + "\n")
	}
	return s.String()
}

// patterns are what the lines of the kinds look like.
var patterns = func() map[int]*regexp.Regexp {
	l := map[int]*regexp.Regexp{}
	for _, s := range shapes() {
		p := `\A` + s.word
		for _, field := range s.says {
			if field == "Bytes" {
				p += `(?: ((?:[0-9a-f][0-9a-f])+))?`
			} else {
				p += ` (0|-?[1-9][0-9]*)`
			}
		}
		l[s.kind] = regexp.MustCompile(p + `\z`)
	}
	return l
}()

// lineSays is the event that a line tells of, by the chapter's words: as one of the patterns, and with numbers that are not too great.
func lineSays(line string) (api.Event, bool) {
	bound := new(big.Int).Sub(new(big.Int).Lsh(big.NewInt(1), 62), big.NewInt(1))
	for _, s := range shapes() {
		found := patterns[s.kind].FindStringSubmatch(line)
		if found == nil {
			continue
		}
		e := api.Event{Kind: s.kind}
		for i, field := range s.says {
			if field == "Bytes" {
				e.Bytes, _ = hex.DecodeString(found[i+1])
				continue
			}
			n, _ := new(big.Int).SetString(found[i+1], 10)
			if n.CmpAbs(bound) > 0 {
				return api.Event{}, false
			}
			*place(&e, field) = int(n.Int64())
		}
		return e, true
	}
	return api.Event{}, false
}

// scriptSays is what Parse must tell.
func scriptSays(s string) ([]api.Event, int, api.Errno) {
	lines := strings.SplitAfter(s, "\n")
	if lines[len(lines)-1] == "" {
		lines = lines[:len(lines)-1]
	}
	if len(s) > 65536 || len(lines) > 2048 {
		return nil, 0, api.ErrLong
	}
	var l []api.Event
	for i, line := range lines {
		e, ok := lineSays(strings.TrimSuffix(line, "\n"))
		if !ok {
			return nil, i + 1, api.ErrScript
		}
		l = append(l, e)
	}
	return l, 0, api.OK
}

// faultsOf is what Judge must tell of what was said, beside what is right.
func faultsOf(right, said []api.Answer) []api.Fault {
	var l []api.Fault
	for i := 0; i < len(right) && i < len(said); i++ {
		if right[i].Code != said[i].Code || right[i].N != said[i].N {
			l = append(l, api.Fault{At: i, Rule: 1})
		} else if string(right[i].Bytes) != string(said[i].Bytes) {
			l = append(l, api.Fault{At: i, Rule: 2})
		}
	}
	if len(right) < len(said) {
		l = append(l, api.Fault{At: len(right), Rule: 3})
	}
	if len(said) < len(right) {
		l = append(l, api.Fault{At: len(said), Rule: 3})
	}
	return l
}
