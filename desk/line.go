package desk

import (
	"slices"
	"strconv"
	"strings"

	"sheave/api"
)

// What stands between a line's words, and at its end.
const (
	blank = " "
	end   = "\n"
)

// The places of an event's numbers, and how many there are.
const (
	inWho = iota
	inPath
	inN
	inM
	places
)

// numbers are an event's.
type numbers [places]int

func numbersOf(e api.Event) numbers {
	return numbers{inWho: e.Who, inPath: e.Path, inN: e.N, inM: e.M}
}

// row is what a line of a kind is: its word, the places of the numbers that it says, and whether it says bytes behind them.
type row struct {
	word   string
	places []int
	bytes  bool
}

// rows are those of the kinds, each at the place of its number. That of 0, which is no kind, has no word.
var rows = [...]row{
	api.EvWrite:   {"write", []int{inWho}, true},
	api.EvRead:    {"read", []int{inWho, inN}, false},
	api.EvTick:    {"tick", []int{inN}, false},
	api.EvPoll:    {"poll", []int{inWho, inN}, false},
	api.EvDeliver: {"deliver", []int{inN}, false},
	api.EvDrop:    {"drop", []int{inN}, false},
	api.EvDouble:  {"double", []int{inN}, false},
	api.EvTurn:    {"turn", []int{inN, inM}, false},
	api.EvAdd:     {"add", []int{inWho, inPath, inM}, false},
	api.EvRemove:  {"remove", []int{inWho, inPath}, false},
	api.EvUpdate:  {"update", []int{inWho}, false},
	api.EvClose:   {"close", []int{inWho, inN}, false},
	api.EvInject:  {"inject", []int{inWho}, true},
	api.EvLook:    {"look", []int{inWho, inPath}, false},
}

func isKind(kind int) bool { return kind >= api.EvWrite && kind <= api.EvLook }

// kindOf is the kind whose lines begin with a word; 0, if there is none.
func kindOf(word string) int {
	for kind, r := range rows {
		if r.word == word {
			return kind
		}
	}
	return 0
}

// isNumber tells whether a line can say a number.
func isNumber(n int) bool { return n >= -api.MaxVar && n <= api.MaxVar }

// isTold tells whether a line says all that an event has. What its row does not name must be 0, which is a number, too.
func isTold(e api.Event) bool {
	if !isKind(e.Kind) {
		return false
	}
	r := rows[e.Kind]
	for place, n := range numbersOf(e) {
		if !isNumber(n) || n != 0 && !slices.Contains(r.places, place) {
			return false
		}
	}
	return r.bytes || len(e.Bytes) == 0
}

// lineOf is the one that tells of an event, with its LF.
func lineOf(e api.Event) string {
	r, l := rows[e.Kind], numbersOf(e)
	words := []string{r.word}
	for _, place := range r.places {
		words = append(words, strconv.Itoa(l[place]))
	}
	if len(e.Bytes) > 0 {
		words = append(words, Hex(e.Bytes))
	}
	return strings.Join(words, blank) + end
}

// linesOf are a script's lines, without their LFs.
func linesOf(s string) []string {
	var l []string
	for line := range strings.Lines(s) {
		l = append(l, strings.TrimSuffix(line, end))
	}
	return l
}

// eventOf is the one that a line tells of, if it is one.
func eventOf(line string) (api.Event, bool) {
	next := wordsOf(line)
	word, _ := next()
	kind := kindOf(word)
	if !isKind(kind) {
		return api.Event{}, false
	}
	r := rows[kind]
	var l numbers
	for _, place := range r.places {
		word, _ := next()
		n, is := number(word)
		if !is {
			return api.Event{}, false
		}
		l[place] = n
	}
	b, is := lastOf(next)
	if !is || len(b) > 0 && !r.bytes {
		return api.Event{}, false
	}
	return api.Event{Kind: kind, Who: l[inWho], Path: l[inPath], N: l[inN], M: l[inM], Bytes: b}, true
}

// lastOf are the bytes that a line ends with: none, if it has no words any more. A word that is there says one byte at least.
func lastOf(next func() (word string, is bool)) ([]byte, bool) {
	digits, is := next()
	if !is {
		return nil, true
	}
	if _, more := next(); more || digits == "" {
		return nil, false
	}
	return Bytes(digits)
}

// wordsOf gives a line's words, one behind the other, and behind the last one none.
func wordsOf(line string) (next func() (word string, is bool)) {
	more := true
	return func() (word string, is bool) {
		is = more
		word, line, more = strings.Cut(line, blank)
		return word, is
	}
}

// number is the one that a word says. There is one way alone to say it: no nought ahead, no sign that it does not need.
func number(word string) (int, bool) {
	n, err := strconv.Atoi(word)
	if err != nil || !isNumber(n) || strconv.Itoa(n) != word {
		return 0, false
	}
	return n, true
}
