package frames_test

import (
	"bytes"
	"encoding/hex"
	"math"
	"math/big"
	"slices"
	"strings"
	"testing"

	"sheave/api"
	"sheave/frames"
	"sheave/octets"
	"sheave/sample"
)

// top is the greatest number that a frame may have.
const top = 1<<62 - 1

// edges are numbers at which something changes: how many bytes they take, whether they may be, whether they are an epoch.
var edges = []int{
	math.MinInt, math.MinInt + 1, -1 << 62, -1 << 32, -65536, -64, -2, -1, 0, 1, 62, 63, 64, 65, 255, 256, 1<<14 - 1, 1 << 14,
	65534, 65535, 65536, 65537, 1<<30 - 1, 1 << 30, 1 << 32, top - 1, top, top + 1, top + 2, math.MaxInt - 1, math.MaxInt,
}

// noKinds are kinds of no frame; some of them would be one's, if only their lowest bits counted.
var noKinds = []int{
	math.MinInt, math.MinInt + 1, -1 << 32, -1<<32 + 5, -256, -255, -8, -7, -2, -1, 0,
	8, 9, 16, 127, 128, 255, 256, 257, 262, 1<<16 + 3, 1<<32 + 1, 1<<32 + 6, math.MaxInt - 1, math.MaxInt,
}

var token = [8]byte{1, 2, 3, 4, 5, 6, 7, 255}

// data and the others below are short ways to write frames down.
func data(at int, text []byte) api.Frame { return api.Frame{Kind: api.FrData, At: at, Bytes: text} }

func ack(at, limit int, l ...api.Range) api.Frame {
	return api.Frame{Kind: api.FrAck, At: at, Limit: limit, Ranges: l}
}

func got(at, limit int, l ...api.Range) api.Frame {
	return api.Frame{Kind: api.FrGot, At: at, Limit: limit, Ranges: l}
}

func challenge(token [8]byte) api.Frame { return api.Frame{Kind: api.FrChallenge, Token: token} }

func response(token [8]byte) api.Frame { return api.Frame{Kind: api.FrResponse, Token: token} }

func update(at int) api.Frame { return api.Frame{Kind: api.FrUpdate, At: at} }

func closing(at int) api.Frame { return api.Frame{Kind: api.FrClose, At: at} }

// text are so many bytes.
func text(many int) []byte { return sample.Drawn(uint64(many)+1, many) }

// spread are so many ranges from a number on, each of size numbers, with a gap behind.
func spread(from, many, size, gap int) []api.Range {
	var l []api.Range
	for range many {
		l = append(l, api.Range{From: from, To: from + size})
		from += size + gap
	}
	return l
}

// known is a frame with its bytes, written out as the chapter's table has them.
type known struct {
	f api.Frame
	b string
}

const (
	most     = "ffffffffffffffff" // 2^62 - 1
	mostLess = "fffffffffffffffe" // one less
)

// ordinary are frames of each kind that may be, and those at the edges.
func ordinary() []known {
	return []known{
		{data(5, []byte("ab")), "0105026162"},
		{data(0, []byte{0}), "01000100"},
		{data(63, []byte("x")), "013f0178"},
		{data(64, []byte("x")), "0140400178"},
		{data(1<<14, []byte("x")), "01800040000178"},
		{data(top, []byte("x")), "01" + most + "0178"},
		{data(7, text(63)), "01073f" + hex.EncodeToString(text(63))},
		{data(7, text(64)), "01074040" + hex.EncodeToString(text(64))},
		{data(7, text(127)), "0107407f" + hex.EncodeToString(text(127))},
		{data(7, text(128)), "01074080" + hex.EncodeToString(text(128))},
		{data(top, text(128)), "01" + most + "4080" + hex.EncodeToString(text(128))},
		{ack(5, 9, api.Range{From: 6, To: 8}, api.Range{From: 10, To: 11}), "0205090201020201"},
		{ack(0, 0), "02000000"},
		{ack(63, 64), "023f404000"},
		{ack(9, 3), "02090300"},
		{ack(top, top), "02" + most + most + "00"},
		{ack(0, 1, api.Range{From: 1, To: 2}), "020001010101"},
		{ack(0, 1, api.Range{From: 1, To: top}), "0200010101" + mostLess},
		{ack(0, 1, api.Range{From: top - 1, To: top}), "02000101" + mostLess + "01"},
		{ack(top-2, 1, api.Range{From: top - 1, To: top}), "02fffffffffffffffd01010101"},
		{ack(1<<40, 1, spread(1<<40+1, 8, 1, 1)...), "02c000010000000000010801010101010101010101010101010101"},
		{ack(9, 64, spread(9+64, 3, 63, 64)...), "020940400340403f40403f40403f"},
		{challenge(token), "0301020304050607ff"},
		{challenge([8]byte{}), "030000000000000000"},
		{response(token), "0401020304050607ff"},
		{response([8]byte{7: 9}), "040000000000000009"},
		{update(0), "0500"},
		{update(63), "053f"},
		{update(64), "054040"},
		{update(65535), "058000ffff"},
		{closing(0), "0600"},
		{closing(7), "0607"},
		{closing(64), "064040"},
		{closing(65536), "0680010000"},
		{closing(1<<30 - 1), "06bfffffff"},
		{closing(1 << 30), "06c000000040000000"},
		{closing(top), "06" + most},
		{got(9, 3, api.Range{From: 0, To: 2}, api.Range{From: 4, To: 9}), "0709030200020205"},
		{got(0, 0), "07000000"},
		{got(top, 65535), "07" + most + "8000ffff00"},
		{got(1, 0, api.Range{From: 0, To: 1}), "070100010001"},
		{got(4, 1, api.Range{From: 2, To: 3}), "070401010201"},
		{got(top, 0, api.Range{From: 0, To: top}), "07" + most + "000100" + most},
		{got(top, 64, api.Range{From: top - 1, To: top}), "07" + most + "404001" + mostLess + "01"},
		{got(15, 1, spread(0, 8, 1, 1)...), "070f010800010101010101010101010101010101"},
		{got(16, 1, spread(1, 8, 1, 1)...), "0710010801010101010101010101010101010101"},
	}
}

// small are frames of which sixteen have no more than 256 bytes.
func small() []api.Frame {
	one := api.Range{From: 6, To: 7}
	return []api.Frame{
		closing(7), update(0), got(0, 0), got(9, 1, one), ack(5, 9, one), data(5, text(1)), challenge(token), response(token),
	}
}

// wrong are frames that may not be, by what is wrong in each.
func wrong() map[string]api.Frame {
	r := sample.Rows
	return map[string]api.Frame{
		"no kind":                               {},
		"data without bytes":                    data(1, nil),
		"data of no bytes":                      data(1, []byte{}),
		"data of 129 bytes":                     data(1, text(129)),
		"data of 257 bytes":                     data(1, text(257)),
		"data below 0":                          data(-1, text(1)),
		"data beyond":                           data(top+1, text(1)),
		"ack below 0":                           ack(-1, 1),
		"ack beyond":                            ack(top+1, 1),
		"ack of a limit below 0":                ack(1, -1),
		"ack of a limit beyond":                 ack(1, top+1),
		"ack of 9 ranges":                       ack(1, 1, spread(2, 9, 1, 1)...),
		"ack of 9 ranges of noughts":            ack(1, 1, make([]api.Range, 9)...),
		"ack of a range at At":                  ack(5, 1, r(5, 6)...),
		"ack of a range below At":               ack(5, 1, r(4, 9)...),
		"ack of a range from 0":                 ack(0, 1, r(0, 1)...),
		"ack of a range below 0":                ack(0, 1, r(-1, 1)...),
		"ack of a range that is empty":          ack(5, 1, r(7, 7)...),
		"ack of a range that falls":             ack(5, 1, r(8, 7)...),
		"ack of a range beyond":                 ack(5, 1, r(7, top+1)...),
		"ack of a range from beyond":            ack(5, 1, r(top+1, top+2)...),
		"ack of a range to the end of int":      ack(5, 1, r(7, math.MaxInt)...),
		"ack of a range from the least to most": ack(5, 1, r(math.MinInt, math.MaxInt)...),
		"ack of ranges that touch":              ack(5, 1, r(7, 8, 8, 9)...),
		"ack of ranges that overlap":            ack(5, 1, r(7, 10, 9, 12)...),
		"ack of ranges that fall":               ack(5, 1, r(10, 12, 7, 9)...),
		"ack of a range twice":                  ack(5, 1, r(7, 9, 7, 9)...),
		"ack whose last range is empty":         ack(5, 1, r(7, 9, 10, 10)...),
		"ack whose last range is beyond":        ack(5, 1, r(7, 9, 10, top+1)...),
		"ack with no room for a range":          ack(top, 1, r(top, top+1)...),
		"update below 0":                        update(-1),
		"update beyond the epochs":              update(65536),
		"update beyond":                         update(top + 1),
		"close below 0":                         closing(-1),
		"close beyond":                          closing(top + 1),
		"got below 0":                           got(-1, 1),
		"got beyond":                            got(top+1, 1),
		"got of an epoch below 0":               got(1, -1),
		"got beyond the epochs":                 got(1, 65536),
		"got of 9 ranges":                       got(99, 1, spread(0, 9, 1, 1)...),
		"got of a range below 0":                got(9, 1, r(-1, 1)...),
		"got of a range all below 0":            got(9, 1, r(-3, -1)...),
		"got of a range that is empty":          got(9, 1, r(2, 2)...),
		"got of a range of noughts":             got(9, 1, r(0, 0)...),
		"got of a range that falls":             got(9, 1, r(3, 2)...),
		"got of a range above At":               got(9, 1, r(3, 10)...),
		"got of a range from above At":          got(9, 1, r(10, 11)...),
		"got of ranges, the last above At":      got(9, 1, r(0, 2, 3, 10)...),
		"got of ranges that touch":              got(9, 1, r(0, 2, 2, 4)...),
		"got of ranges that overlap":            got(9, 1, r(0, 3, 2, 4)...),
		"got of ranges that fall":               got(9, 1, r(4, 6, 0, 2)...),
		"got of nothing but a range":            got(0, 0, r(0, 1)...),
		"got of a range beyond":                 got(top, 1, r(0, top+1)...),
		"got of a range to the end of int":      got(top, 1, r(0, math.MaxInt)...),
	}
}

// extra are the frames of f with one field more, that its row does not name, each other than 0.
func extra(f api.Frame) []api.Frame {
	var l []api.Frame
	add := func(change func(f *api.Frame)) {
		g := f
		change(&g)
		l = append(l, g)
	}
	has := func(letter string) bool { return strings.Contains(named(f.Kind), letter) }
	for _, n := range []int{1, -1, 65535, top, math.MinInt, math.MaxInt, 1 << 32} {
		if !has("A") {
			add(func(f *api.Frame) { f.At = n })
		}
		if !has("L") {
			add(func(f *api.Frame) { f.Limit = n })
		}
	}
	if !has("R") {
		add(func(f *api.Frame) { f.Ranges = make([]api.Range, 1) })
		add(func(f *api.Frame) { f.Ranges = spread(f.At+1, 1, 1, 1) })
	}
	if !has("B") {
		add(func(f *api.Frame) { f.Bytes = []byte{0} })
		add(func(f *api.Frame) { f.Bytes = text(9) })
	}
	if !has("T") {
		for i := range token {
			add(func(f *api.Frame) { f.Token[i] = 1 })
			add(func(f *api.Frame) { f.Token[i] = 128 })
		}
	}
	return l
}

// named are the fields that a kind's row names, by their first letters; none of a kind that is none.
func named(kind int) string {
	return map[int]string{1: "AB", 2: "ALR", 3: "T", 4: "T", 5: "A", 6: "A", 7: "ALR"}[kind]
}

// may tells whether a frame may be, by the chapter's first paragraph and table, word for word.
func may(f api.Frame) bool {
	has := func(letter string) bool { return strings.Contains(named(f.Kind), letter) }
	isNumber := func(n int) bool { return n >= 0 && n < 1<<62 }
	switch {
	case named(f.Kind) == "":
		return false
	case !has("A") && f.At != 0, !has("L") && f.Limit != 0, !has("R") && len(f.Ranges) > 0, !has("B") && len(f.Bytes) > 0:
		return false
	case !has("T") && !bytes.Equal(f.Token[:], make([]byte, 8)), !isNumber(f.At), !isNumber(f.Limit), len(f.Ranges) > 8:
		return false
	}
	for i, r := range f.Ranges {
		if !isNumber(r.From) || !isNumber(r.To) || r.To <= r.From || i > 0 && r.From <= f.Ranges[i-1].To {
			return false
		}
	}
	switch f.Kind {
	case 1:
		return len(f.Bytes) > 0 && len(f.Bytes) < 129
	case 2:
		return len(f.Ranges) == 0 || f.Ranges[0].From > f.At
	case 5:
		return f.At < 65536
	case 7:
		return f.Limit < 65536 && (len(f.Ranges) == 0 || f.Ranges[len(f.Ranges)-1].To <= f.At)
	}
	return true
}

// pieces are the bytes of a frame that may be, piece by piece: its kind, then each number, and a text or a token as it is; and
// which of them are numbers.
func pieces(f api.Frame) (l [][]byte, numbers []int) {
	l = append(l, []byte{byte(f.Kind)})
	number := func(n int) {
		b, _ := octets.PutVar(nil, n)
		numbers = append(numbers, len(l))
		l = append(l, b)
	}
	if f.Kind == 3 || f.Kind == 4 {
		return append(l, f.Token[:]), nil
	}
	number(f.At)
	if f.Kind == 1 {
		number(len(f.Bytes))
		l = append(l, f.Bytes)
	}
	if f.Kind == 2 || f.Kind == 7 {
		number(f.Limit)
		number(len(f.Ranges))
		ahead := map[int]int{2: f.At}[f.Kind]
		for _, r := range f.Ranges {
			number(r.From - ahead)
			number(r.To - r.From)
			ahead = r.To
		}
	}
	return l, numbers
}

func bytesOf(f api.Frame) []byte {
	l, _ := pieces(f)
	return slices.Concat(l...)
}

// modelFrame reads one frame by the words of P10.3, with sums of whole numbers without end, and tells what is behind it.
func modelFrame(b []byte) (f api.Frame, rest []byte, e api.Errno) {
	f.Kind, rest = int(b[0]), b[1:]
	if named(f.Kind) == "" {
		return f, nil, api.ErrFrame
	}
	number := func() (n int) {
		if e == api.OK {
			n, rest, e = octets.TakeVar(rest)
		}
		return n
	}
	switch f.Kind {
	case 1:
		f.At = number()
		if e == api.OK {
			f.Bytes, rest, e = octets.TakeBytes(rest, 128)
		}
	case 3, 4:
		if len(rest) < 8 {
			return f, nil, api.ErrShort
		}
		copy(f.Token[:], rest)
		rest = rest[8:]
	case 5, 6:
		f.At = number()
	case 2, 7:
		f.At = number()
		f.Limit = number()
		many := number()
		if e == api.OK && many > 8 {
			return f, nil, api.ErrFrame
		}
		ahead := new(big.Int)
		if f.Kind == 2 {
			ahead.SetInt64(int64(f.At))
		}
		for range many {
			from := new(big.Int).Add(ahead, big.NewInt(int64(number())))
			to := new(big.Int).Add(from, big.NewInt(int64(number())))
			if e == api.OK && to.Cmp(big.NewInt(top)) > 0 {
				return f, nil, api.ErrFrame
			}
			f.Ranges = append(f.Ranges, api.Range{From: int(from.Int64()), To: int(to.Int64())})
			ahead = to
		}
	}
	if e == api.OK && !may(f) {
		e = api.ErrFrame
	}
	return f, rest, e
}

func model(b []byte) ([]api.Frame, api.Errno) {
	if len(b) > 256 {
		return nil, api.ErrLong
	}
	var l []api.Frame
	for len(b) > 0 {
		if len(l) == 16 {
			return nil, api.ErrLong
		}
		f, rest, e := modelFrame(b)
		if e != api.OK {
			return nil, e
		}
		l, b = append(l, f), rest
	}
	return l, api.OK
}

func equal(a, b api.Frame) bool {
	return a.Kind == b.Kind && a.At == b.At && a.Limit == b.Limit && slices.Equal(a.Ranges, b.Ranges) &&
		bytes.Equal(a.Bytes, b.Bytes) && a.Token == b.Token
}

func isSize(t *testing.T, f api.Frame, want int) {
	t.Helper()
	e, size := frames.Check(f), frames.Size(f)
	if e != api.OK || size != want {
		t.Errorf("%+v: error %d, %d bytes, not %d", f, e, size, want)
	}
}

func isWrong(t *testing.T, what string, f api.Frame) {
	t.Helper()
	if e, size := frames.Check(f), frames.Size(f); e != api.ErrFrame || size != 0 {
		t.Errorf("%s: %+v: error %d, %d bytes", what, f, e, size)
	}
	isNotEncoded(t, []api.Frame{f}, api.ErrFrame)
}

func isEncoded(t *testing.T, l []api.Frame, want []byte) {
	t.Helper()
	if b, e := frames.Encode(l); e != api.OK || !bytes.Equal(b, want) {
		t.Errorf("%+v: %x, error %d, not %x", l, b, e, want)
	}
}

func isNotEncoded(t *testing.T, l []api.Frame, want api.Errno) {
	t.Helper()
	if b, e := frames.Encode(l); e != want || len(b) != 0 {
		t.Errorf("%+v: %x, error %d, not %d", l, b, e, want)
	}
}

func isDecoded(t *testing.T, b []byte, want []api.Frame) {
	t.Helper()
	if l, e := frames.Decode(b); e != api.OK || !slices.EqualFunc(l, want, equal) {
		t.Errorf("%x: %+v, error %d, not %+v", b, l, e, want)
	}
}

func isNotDecoded(t *testing.T, b []byte, want api.Errno) {
	t.Helper()
	if l, e := frames.Decode(b); e != want || len(l) != 0 {
		t.Errorf("%x: %+v, error %d, not %d", b, l, e, want)
	}
}

func spoilRanges(l []api.Range) { sample.Fill(l, api.Range{From: -5, To: -6}) }
