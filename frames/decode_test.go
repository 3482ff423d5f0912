package frames_test

import (
	"bytes"
	"math/big"
	"slices"
	"testing"

	"sheave/api"
	"sheave/frames"
	"sheave/octets"
	"sheave/sample"
)

// P10.3: no bytes have no frames; more than 256 are refused, whatever they are.
func TestDecodeOfHowMany(t *testing.T) {
	isDecoded(t, nil, nil)
	isDecoded(t, []byte{}, nil)
	for _, many := range []int{257, 258, 512, 1 << 16} {
		for first := range 256 {
			b := make([]byte, many)
			b[0] = byte(first)
			isNotDecoded(t, b, api.ErrLong)
		}
	}
	isNotDecoded(t, make([]byte, 256), api.ErrFrame)
}

// P10.3: 16 frames, and 17; a seventeenth that is none, or is not whole, is too long all the same; but what is wrong ahead of it
// is told first.
func TestDecodeOfASeventeenth(t *testing.T) {
	for _, f := range small() {
		for many := range 40 {
			all := bytes.Repeat(bytesOf(f), many)
			if many > 16 {
				isNotDecoded(t, all, api.ErrLong)
			} else {
				isDecoded(t, all, slices.Repeat([]api.Frame{f}, many))
			}
		}
	}
	for last, want := range map[string]api.Errno{
		"00": api.ErrFrame, "08": api.ErrFrame, "ff": api.ErrFrame, "06": api.ErrShort, "0640": api.ErrShort,
		"064007": api.ErrCode, "0100": api.ErrShort, "010500": api.ErrFrame, "03": api.ErrShort, "02050909": api.ErrFrame,
	} {
		isNotDecoded(t, append(bytes.Repeat([]byte{6, 7}, 16), sample.Hex(last)...), api.ErrLong)
		isNotDecoded(t, append(bytes.Repeat([]byte{6, 7}, 15), sample.Hex(last)...), want)
	}
	for wrong, want := range map[string]api.Errno{
		"00": api.ErrFrame, "064007": api.ErrCode, "010500": api.ErrFrame, "02050909": api.ErrFrame,
	} {
		for ahead := range 16 {
			isNotDecoded(t, slices.Concat(bytes.Repeat([]byte{6, 7}, ahead), sample.Hex(wrong), bytes.Repeat([]byte{6, 7}, 30)), want)
		}
	}
}

// P10.3: each first byte; a kind is one byte, whatever its highest bits would tell of a number, and told ahead of what follows.
func TestDecodeOfKinds(t *testing.T) {
	for kind := range 256 {
		if kind > 0 && kind < 8 {
			isNotDecoded(t, []byte{byte(kind)}, api.ErrShort)
			continue
		}
		for _, behind := range []string{"", "00", "40", "4006", "ff", "0000000000000000", "05026162", "0607"} {
			b := append([]byte{byte(kind)}, sample.Hex(behind)...)
			isNotDecoded(t, b, api.ErrFrame)
			isNotDecoded(t, append([]byte{6, 7}, b...), api.ErrFrame)
		}
	}
}

// P10.3: bytes cut at each place are short, with another frame ahead or none.
func TestDecodeOfCutBytes(t *testing.T) {
	for _, k := range ordinary() {
		b := sample.Hex(k.b)
		for cut := 1; cut < len(b); cut++ {
			isNotDecoded(t, b[:cut], api.ErrShort)
			isNotDecoded(t, append([]byte{6, 7}, b[:cut]...), api.ErrShort)
		}
	}
}

// wider are the ways to write a number's least bytes in more.
func wider(b []byte) [][]byte {
	var l [][]byte
	for told := 1; told < 4; told++ {
		many := 1 << told
		if len(b) >= many {
			continue
		}
		w := append(make([]byte, many-len(b)), b...)
		w[many-len(b)] &= 0x3f
		w[0] |= byte(told << 6)
		l = append(l, w)
	}
	return l
}

// P10.3: each number in more bytes than it needs, with what is behind it or cut there; within the number it is short.
func TestDecodeOfNumbersThatAreNotLeast(t *testing.T) {
	tried := 0
	for _, k := range ordinary() {
		l, numbers := pieces(k.f)
		for _, i := range numbers {
			ahead, behind := slices.Concat(l[:i]...), slices.Concat(l[i+1:]...)
			for _, w := range wider(l[i]) {
				tried++
				isNotDecoded(t, slices.Concat(ahead, w, behind), api.ErrCode)
				isNotDecoded(t, slices.Concat(ahead, w), api.ErrCode)
				isNotDecoded(t, slices.Concat([]byte{6, 7}, ahead, w), api.ErrCode)
				isNotDecoded(t, slices.Concat(ahead, w[:len(w)-1]), api.ErrShort)
			}
		}
	}
	if tried < 200 {
		t.Errorf("only %d were tried", tried)
	}
}

// P10.3: frames that are whole and may not be, as far as their bytes can be told.
func TestDecodeOfWrong(t *testing.T) {
	tried := 0
	for what, f := range wrong() {
		b := bytesOf(f)
		if f.Kind == 0 || len(b) > 256 || !isTold(f) {
			continue
		}
		tried++
		want := api.ErrFrame
		if len(f.Bytes) > 128 {
			want = api.ErrLong
		}
		for _, behind := range []string{"", "0607", "00", "06", "064007"} {
			if l, e := frames.Decode(append(bytes.Clone(b), sample.Hex(behind)...)); e != want || len(l) != 0 {
				t.Errorf("%s: %x: %+v, error %d, not %d", what, b, l, e, want)
			}
		}
	}
	if tried < 15 {
		t.Errorf("only %d were tried", tried)
	}
}

// isTold tells whether all numbers of a frame's bytes can be told, right or wrong.
func isTold(f api.Frame) bool {
	l, numbers := pieces(f)
	return !slices.ContainsFunc(numbers, func(i int) bool { return len(l[i]) == 0 })
}

// P10.3: which error is told where several hold.
func TestDecodeTellsErrorsInOrder(t *testing.T) {
	for s, want := range map[string]api.Errno{
		// A number that is not least, ahead of what is behind it.
		"014005":               api.ErrCode,
		"01400540":             api.ErrCode,
		"0140054081":           api.ErrCode,
		"01054005":             api.ErrCode,
		"010580000081":         api.ErrCode, // 129 bytes, not least
		"0105c000000000000081": api.ErrCode,
		"0105c0":               api.ErrShort,
		// A text that is too long, ahead of one that is not whole.
		"01054081":           api.ErrLong,
		"0105408161":         api.ErrLong,
		"0105bfffffff":       api.ErrLong,
		"0105" + most:        api.ErrLong,
		"01" + most + "4081": api.ErrLong,
		"01054080":           api.ErrShort,
		"01053f":             api.ErrShort,
		// No bytes at all: the frame is whole, and may not be.
		"010500":     api.ErrFrame,
		"01050006":   api.ErrFrame,
		"010500ff":   api.ErrFrame,
		"0105004007": api.ErrFrame,
		// How many ranges there are, ahead of them.
		"02050909":                api.ErrFrame,
		"0205090940":              api.ErrFrame,
		"020509094001":            api.ErrFrame,
		"0205094040":              api.ErrFrame,
		"020509" + most:           api.ErrFrame,
		"0205094009":              api.ErrCode,
		"020509ff":                api.ErrShort,
		"07050909":                api.ErrFrame,
		"0705090900":              api.ErrFrame,
		"07058001000009":          api.ErrFrame,
		"070509" + most:           api.ErrFrame,
		"0705094009":              api.ErrCode,
		"02050908":                api.ErrShort,
		"07050908":                api.ErrShort,
		"02" + most + most + "09": api.ErrFrame,
		"0240050909":              api.ErrCode,
		"0205400909":              api.ErrCode,
		"02400540":                api.ErrCode,
		"020540094009":            api.ErrCode,
		"0205098000000900":        api.ErrCode,
		"0205090100":              api.ErrShort,
		"020509010001":            api.ErrFrame, // a range at At
		"020509020001":            api.ErrShort, // and another one that is not whole
		"02050902000140":          api.ErrShort,
		"0205090200014001":        api.ErrCode,
		"02050902000101":          api.ErrShort,
		"0205090200010101":        api.ErrFrame,
		"020509010100":            api.ErrFrame, // an empty range
		"0205090201000101":        api.ErrFrame,
		"02050902010001":          api.ErrShort,
		"0205090201004001":        api.ErrCode,
		"0205090201010001":        api.ErrFrame, // ranges that touch
		"02050903010100010101":    api.ErrFrame,
		"020509030101000101":      api.ErrShort,
		"02050903010100014001":    api.ErrCode,
		"0205090301010001014001":  api.ErrCode,
		// Got: its epoch, and ranges above At, at the frame's end alone.
		"070580010000":           api.ErrShort,
		"07058001000000":         api.ErrFrame,
		"0705800100000100":       api.ErrShort,
		"070580010000010001":     api.ErrFrame,
		"0705800100004001":       api.ErrCode,
		"070301010202":           api.ErrFrame,
		"07030102020201":         api.ErrShort,
		"0703010202024001":       api.ErrCode,
		"0703010202020101":       api.ErrFrame,
		"0703010200010001":       api.ErrFrame,
		"070301010000":           api.ErrFrame,
		"07030102000040":         api.ErrShort,
		"0703010200004000":       api.ErrCode,
		"07" + most + "00010001": api.OK,
		"07" + most + "00010000": api.ErrFrame,
		"070000010001":           api.ErrFrame,
		// Epochs beyond the last.
		"0580010000":   api.ErrFrame,
		"058001000006": api.ErrFrame,
		"05" + most:    api.ErrFrame,
		"05800100":     api.ErrShort,
		"0580000040":   api.ErrCode,
		// Tokens that are not whole.
		"03":                   api.ErrShort,
		"0301020304050607":     api.ErrShort,
		"04ffffffffffffff":     api.ErrShort,
		"0400":                 api.ErrShort,
		"03010203040506070808": api.ErrFrame, // whole, and then a kind that is none
		// The first frame's error, ahead of the next one's.
		"06074007":   api.ErrFrame,
		"060706":     api.ErrShort,
		"06070640":   api.ErrShort,
		"0607064007": api.ErrCode,
		"06400708":   api.ErrCode,
		"0806":       api.ErrFrame,
		"060700":     api.ErrFrame,
	} {
		if want == api.OK {
			if _, e := frames.Decode(sample.Hex(s)); e != api.OK {
				t.Errorf("%s: error %d", s, e)
			}
			continue
		}
		isNotDecoded(t, sample.Hex(s), want)
	}
}

// P10.3: a range that ends beyond 2^62 - 1 is told as soon as its two numbers are, whatever is behind; ahead of that it is short,
// or not least, even where it already begins beyond.
func TestDecodeOfRangesThatEndBeyond(t *testing.T) {
	for _, one := range []struct {
		ahead string // the frame up to the range's two numbers; another range would have to be behind them
		room  int    // how far it is from what is told so far to 2^62 - 1
	}{
		{"02" + "00" + "00" + "02", top},
		{"02" + "05" + "00" + "02", top - 5},
		{"02" + most + "00" + "02", 0},
		{"02" + mostLess + "00" + "02", 1},
		{"02" + "05" + "00" + "03" + "0101", top - 7},
		{"02" + "00" + "00" + "03" + "01" + mostLess, 0},
		{"02" + "00" + "00" + "03" + mostLess + "01", 0},
		{"07" + "00" + "00" + "02", top},
		{"07" + most + "00" + "02", top},
		{"07" + most + "8000ffff" + "03" + "0001", top - 1},
		{"07" + "05" + "00" + "03" + "00" + most, 0},
		{"07" + "05" + "00" + "03" + "00" + mostLess, 1},
	} {
		ahead := sample.Hex(one.ahead)
		for _, gap := range []int{0, 1, 2, 63, 64, 1 << 30, 1 << 61, top - 7, top - 6, top - 5, top - 1, top} {
			for _, long := range []int{0, 1, 2, 63, 64, 1 << 30, 1 << 61, top - 7, top - 6, top - 5, top - 1, top} {
				g, _ := octets.PutVar(ahead, gap)
				b, _ := octets.PutVar(g, long)
				sum := new(big.Int).Add(big.NewInt(int64(gap)), big.NewInt(int64(long)))
				beyond := sum.Cmp(big.NewInt(int64(one.room))) > 0
				cut, notLeast := api.ErrShort, api.ErrCode
				if beyond {
					cut, notLeast = api.ErrFrame, api.ErrFrame
				}
				isNotDecoded(t, b, cut)
				isNotDecoded(t, append(bytes.Clone(b), 1), cut)
				isNotDecoded(t, append(bytes.Clone(b), 0x40, 1), notLeast)
				isNotDecoded(t, g, api.ErrShort)
				isNotDecoded(t, b[:len(b)-1], api.ErrShort)
				isNotDecoded(t, append(bytes.Clone(g), 0x40, 1), api.ErrCode)
			}
		}
	}
}

// P10.3: ranges that end at 2^62 - 1 and not beyond are read.
func TestDecodeOfRangesThatEndAtTheMost(t *testing.T) {
	for _, from := range []int{1, 2, 63, 64, 1 << 30, 1 << 61, top - 2, top - 1} {
		r := api.Range{From: from, To: top}
		for _, f := range []api.Frame{ack(from-1, 0, r), ack(0, 0, r), got(top, 0, r)} {
			isDecoded(t, bytesOf(f), []api.Frame{f})
		}
	}
}

// draw is a source of numbers without a rule, the same each time.
type draw struct{ left []byte }

func (d *draw) below(n int) int {
	many := int(d.left[0])<<8 | int(d.left[1])
	d.left = d.left[2:]
	return many % n
}

// P10.3, P10.4: rows of frames with some bytes changed, put in, left out or cut, as the chapter's words tell them; what is read
// is written as the same bytes.
func TestDecodeOfChangedBytes(t *testing.T) {
	l := ordinary()
	seen := map[api.Errno]int{}
	d := &draw{sample.Drawn(20, 1<<22)}
	for range 60000 {
		var b []byte
		for range 1 + d.below(4) {
			b = append(b, sample.Hex(l[d.below(len(l))].b)...)
		}
		for range d.below(4) {
			at := d.below(len(b))
			switch d.below(4) {
			case 0:
				b[at] = byte(d.below(256))
			case 1:
				b[at] ^= 1 << d.below(8)
			case 2:
				b = slices.Insert(b, at, byte(d.below(256)))
			default:
				b = append(slices.Delete(b, at, at+1), 0)
			}
		}
		want, e := model(b)
		seen[e]++
		if e != api.OK {
			isNotDecoded(t, b, e)
			continue
		}
		isDecoded(t, b, want)
		isEncoded(t, want, b)
	}
	for _, e := range []api.Errno{api.OK, api.ErrLong, api.ErrShort, api.ErrCode, api.ErrFrame} {
		if seen[e] < 100 {
			t.Errorf("error %d was seen only %d times", e, seen[e])
		}
	}
}

// P10.3, P10.4: all rows of up to five bytes of those that matter.
func TestDecodeOfShortRows(t *testing.T) {
	some := []byte{0, 1, 2, 3, 5, 6, 7, 8, 9, 0x3f, 0x40, 0x80, 0xff}
	read := 0
	rows := [][]byte{nil}
	for range 5 {
		var longer [][]byte
		for _, row := range rows {
			for _, c := range some {
				longer = append(longer, append(bytes.Clone(row), c))
			}
		}
		rows = longer
		for _, b := range rows {
			want, e := model(b)
			l, got := frames.Decode(b)
			if got != e || !slices.EqualFunc(l, want, equal) {
				t.Fatalf("%x: %+v, error %d, not %+v, error %d", b, l, got, want, e)
			}
			if e == api.OK {
				read++
				isEncoded(t, l, b)
			}
		}
	}
	if read < 1000 {
		t.Errorf("only %d were read", read)
	}
}

// P10.3: the bytes that are handed in stay as they were, with the room behind them, which does not count; the frames are the
// caller's own, and no list of them shares anything with another.
func TestDecodeLeavesWhatItIsGiven(t *testing.T) {
	var rows [][]byte
	for _, k := range ordinary() {
		b := sample.Hex(k.b)
		rows = append(rows, b, b[:len(b)-1], append([]byte{6, 7}, b...))
		rows = append(rows, slices.Concat(sample.Hex("0105026162"), b, sample.Hex("02050901010201050161")))
	}
	rows = append(rows, bytes.Repeat(sample.Hex("0709030200020205"), 9), bytes.Repeat(sample.Hex("0105026162"), 16))
	rows = append(rows, nil, []byte{0}, make([]byte, 257))
	for _, row := range rows {
		room := slices.Concat(row, sample.Hex("0607"), text(40))
		kept := bytes.Clone(room)
		l, e := frames.Decode(room[:len(row)])
		again, _ := frames.Decode(room[:len(row)])
		want, wanted := model(row)
		if !bytes.Equal(room, kept) || e != wanted || !slices.EqualFunc(l, want, equal) {
			t.Errorf("%x: it, or what is behind it, is changed, or counts: %+v, error %d", row, l, e)
		}
		for i := range l {
			sample.Spoil(l[i].Bytes)
			spoilRanges(l[i].Ranges)
			l[i].Token[0] ^= 1
			if !bytes.Equal(room, kept) || !slices.EqualFunc(l[i+1:], want[i+1:], equal) || !slices.EqualFunc(again, want, equal) {
				t.Errorf("%x: it, or another list, is changed with those of frame %d", row, i)
			}
		}
		sample.Spoil(room)
		if !slices.EqualFunc(again, want, equal) {
			t.Errorf("%x: what was answered is changed with it", row)
		}
	}
}
