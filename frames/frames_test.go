package frames_test

import (
	"bytes"
	"math"
	"reflect"
	"slices"
	"testing"

	"sheave/api"
	"sheave/frames"
	"sheave/octets"
	"sheave/sample"
)

// P10.2, P10.3: the chapter's examples.
func TestExamples(t *testing.T) {
	isEncoded(t, []api.Frame{data(5, []byte("ab")), closing(7)}, sample.Hex("01050261620607"))
	isEncoded(t, []api.Frame{ack(5, 9, api.Range{From: 6, To: 8}, api.Range{From: 10, To: 11})}, sample.Hex("0205090201020201"))
	isDecoded(t, sample.Hex("01050261620607"), []api.Frame{data(5, []byte("ab")), closing(7)})
	for s, want := range map[string]api.Errno{
		"010500": api.ErrFrame, "08": api.ErrFrame, "064007": api.ErrCode, "01050261": api.ErrShort,
	} {
		isNotDecoded(t, sample.Hex(s), want)
	}
}

// P10.1, P10.2, P10.3: frames of each kind, with their bytes written out.
func TestOrdinary(t *testing.T) {
	for _, k := range ordinary() {
		b := sample.Hex(k.b)
		isSize(t, k.f, len(b))
		isEncoded(t, []api.Frame{k.f}, b)
		isDecoded(t, b, []api.Frame{k.f})
		if !bytes.Equal(bytesOf(k.f), b) {
			t.Errorf("%+v: the test itself reckons %x", k.f, bytesOf(k.f))
		}
	}
}

// P10.1: what may not be.
func TestWrong(t *testing.T) {
	for what, f := range wrong() {
		isWrong(t, what, f)
	}
}

// P10.1: kinds that are none, with the fields of each kind that there is, or with none.
func TestCheckOfKinds(t *testing.T) {
	for _, kind := range noKinds {
		isWrong(t, "a kind that is none", api.Frame{Kind: kind})
		for _, k := range ordinary() {
			f := k.f
			f.Kind = kind
			isWrong(t, "a kind that is none", f)
		}
	}
}

// P10.1: each frame with another's kind is as that one's row says.
func TestCheckOfOthersFields(t *testing.T) {
	for _, k := range ordinary() {
		for kind := 1; kind <= 7; kind++ {
			f := k.f
			f.Kind = kind
			if may(f) {
				isSize(t, f, len(bytesOf(f)))
			} else {
				isWrong(t, "another's fields", f)
			}
		}
	}
}

// P10.1: the edges of At and Limit in each kind that has them.
func TestCheckOfNumbers(t *testing.T) {
	for _, n := range edges {
		isIn := n >= 0 && n <= top
		isEpoch := n >= 0 && n <= 65535
		b, _ := octets.PutVar(nil, n)
		for _, one := range []struct {
			f     api.Frame
			may   bool
			bytes int
		}{
			{data(n, text(1)), isIn, 3}, {ack(n, 1), isIn, 3}, {ack(1, n), isIn, 3}, {closing(n), isIn, 1}, {got(n, 1), isIn, 3},
			{got(1, n), isEpoch, 3}, {update(n), isEpoch, 1},
		} {
			if one.may {
				isSize(t, one.f, one.bytes+len(b))
			} else {
				isWrong(t, "a number", one.f)
			}
		}
	}
}

// P10.1: 0 to 300 bytes of data, with noughts, ones and others.
func TestCheckOfBytes(t *testing.T) {
	for many := range 300 {
		for _, b := range sample.Kinds(many) {
			f := data(1, b)
			switch {
			case many == 0 || many > 128:
				isWrong(t, "so many bytes", f)
			case many < 64:
				isSize(t, f, many+3)
			default:
				isSize(t, f, many+4)
			}
		}
	}
	for _, many := range []int{1 << 8, 1<<8 + 1, 1 << 16, 1<<16 + 1, 1 << 20} {
		isWrong(t, "so many bytes", data(1, make([]byte, many)))
	}
}

// P10.1: 0 to 20 ranges, and very many.
func TestCheckOfHowManyRanges(t *testing.T) {
	for _, many := range []int{0, 1, 2, 7, 8, 9, 10, 16, 20, 256, 257, 264, 1 << 16} {
		for _, f := range []api.Frame{ack(3, 1, spread(4, many, 2, 1)...), got(1<<20, 1, spread(0, many, 2, 1)...)} {
			if many <= 8 {
				isSize(t, f, len(bytesOf(f)))
			} else {
				isWrong(t, "so many ranges", f)
			}
		}
	}
}

// rows are the lists of up to so many ranges with ends of those numbers.
func rows(many int, ends []int) [][]api.Range {
	l := [][]api.Range{nil}
	for from := 0; many > 0; many-- {
		to := len(l)
		for _, row := range l[from:to] {
			for _, a := range ends {
				for _, b := range ends {
					l = append(l, append(slices.Clone(row), api.Range{From: a, To: b}))
				}
			}
		}
		from = to
	}
	return l
}

// P10.1: all lists of up to two ranges with ends around an At, and around the greatest number, as the chapter's words tell them.
func TestCheckOfRanges(t *testing.T) {
	right := 0
	for _, ends := range [][]int{
		{-1, 0, 1, 2, 3, 4, 5, 6}, {0, 2, 3, top - 2, top - 1, top, top + 1}, {math.MinInt, -1, 0, 1, 3, top, math.MaxInt},
	} {
		for _, row := range rows(2, ends) {
			for _, at := range []int{0, 1, 3, 6, top - 2, top - 1, top} {
				for _, f := range []api.Frame{ack(at, 1, row...), got(at, 1, row...)} {
					if may(f) {
						right++
						isSize(t, f, len(bytesOf(f)))
					} else {
						isWrong(t, "ranges", f)
					}
				}
			}
		}
	}
	if right < 400 {
		t.Errorf("only %d may be", right)
	}
}

// P10.1: the same of lists of three ranges, with fewer ends.
func TestCheckOfThreeRanges(t *testing.T) {
	right := 0
	for _, row := range rows(3, []int{0, 1, 2, 3, 4, 5}) {
		for _, f := range []api.Frame{ack(0, 1, row...), got(5, 1, row...), got(4, 1, row...)} {
			want := api.ErrFrame
			if may(f) {
				right++
				want = api.OK
			}
			if e := frames.Check(f); e != want {
				t.Errorf("%+v: error %d, not %d", f, e, want)
			}
		}
	}
	if right < 40 {
		t.Errorf("only %d may be", right)
	}
}

// P10.1: each field that a row does not name, one at a time; lists that are empty may be there or not.
func TestCheckOfFieldsThatNoRowNames(t *testing.T) {
	for _, k := range ordinary() {
		for _, f := range extra(k.f) {
			isWrong(t, "a field that the row does not name", f)
		}
		f := k.f
		if len(f.Ranges) == 0 {
			f.Ranges = make([]api.Range, 0, 3)
		}
		if len(f.Bytes) == 0 {
			f.Bytes = []byte{}
		}
		isSize(t, f, len(k.b)/2)
		isEncoded(t, []api.Frame{f}, sample.Hex(k.b))
	}
}

// P10.2: no frames at all; 16 frames, and 17.
func TestEncodeOfHowMany(t *testing.T) {
	isEncoded(t, nil, nil)
	isEncoded(t, []api.Frame{}, nil)
	for _, f := range small() {
		for many := range 40 {
			l := slices.Repeat([]api.Frame{f}, many)
			if many > 16 {
				isNotEncoded(t, l, api.ErrLong)
			} else {
				isEncoded(t, l, bytes.Repeat(bytesOf(f), many))
			}
		}
	}
	isNotEncoded(t, make([]api.Frame, 17), api.ErrLong)
	isNotEncoded(t, make([]api.Frame, 1<<16+1), api.ErrLong)
}

// fill are frames with so many bytes together, 204 to 266: two of 100 each, and one with the others, of which 3 are no data.
func fill(many int) []api.Frame {
	l := []api.Frame{data(1, text(96)), data(2, text(96))}
	return append(l, data(3, text(many-203)))
}

// P10.2, P10.3: 256 bytes together, and 257.
func TestHowManyBytes(t *testing.T) {
	for many := 204; many < 267; many++ {
		l := fill(many)
		var b []byte
		for _, f := range l {
			b = append(b, bytesOf(f)...)
		}
		if len(b) != many {
			t.Fatalf("the test itself reckons %d bytes, not %d", len(b), many)
		}
		if many > 256 {
			isNotEncoded(t, l, api.ErrLong)
			isNotDecoded(t, b, api.ErrLong)
		} else {
			isEncoded(t, l, b)
			isDecoded(t, b, l)
		}
	}
	big := data(0, text(128))
	isNotEncoded(t, []api.Frame{big, big}, api.ErrLong)
	isNotEncoded(t, slices.Repeat([]api.Frame{data(top, text(128))}, 16), api.ErrLong)
	isEncoded(t, slices.Repeat([]api.Frame{data(300, text(12))}, 16), bytes.Repeat(bytesOf(data(300, text(12))), 16))
}

// P10.2: too many frames are told ahead of one that may not be, and that ahead of too many bytes, wherever it stands.
func TestEncodeTellsErrorsInOrder(t *testing.T) {
	for what, f := range wrong() {
		for many := range 20 {
			for at := range many + 1 {
				for _, other := range []api.Frame{closing(7), data(1, text(128))} {
					l := slices.Insert(slices.Repeat([]api.Frame{other}, many), at, f)
					want := api.ErrFrame
					if len(l) > 16 {
						want = api.ErrLong
					}
					if b, e := frames.Encode(l); e != want || len(b) != 0 {
						t.Errorf("%s, at %d of %d: %x, error %d, not %d", what, at, many+1, b, e, want)
					}
				}
			}
		}
	}
}

// P10.4: what is written is read, over each two of the frames, and over rows of up to sixteen of them.
func TestWhatIsWrittenIsRead(t *testing.T) {
	l := ordinary()
	check := func(row []api.Frame) {
		t.Helper()
		b, e := frames.Encode(row)
		many := 0
		for _, f := range row {
			many += frames.Size(f)
		}
		if many > 256 {
			isNotEncoded(t, row, api.ErrLong)
			return
		}
		if e != api.OK || len(b) != many {
			t.Errorf("%+v: %d bytes, error %d, not %d", row, len(b), e, many)
			return
		}
		isDecoded(t, b, row)
	}
	for _, a := range l {
		for _, b := range l {
			check([]api.Frame{a.f, b.f})
			check([]api.Frame{b.f, a.f, b.f})
		}
	}
	d := &draw{sample.Drawn(21, 1<<18)}
	for range 4000 {
		var row []api.Frame
		for range d.below(17) {
			row = append(row, l[d.below(len(l))].f)
		}
		check(row)
	}
}

// P10.4: numbers at and beside each power of two, in each place that has one.
func TestNumbersAreReadAsWritten(t *testing.T) {
	for exponent := range 62 {
		for _, n := range []int{1<<exponent - 1, 1 << exponent, 1<<exponent + 1, 1<<(exponent+1) - 2, top - 1<<exponent + 1} {
			l := []api.Frame{data(n, text(1)), closing(n), ack(n, n), got(n, 1)}
			if n < 65536 {
				l = append(l, update(n), got(1, n))
			}
			if n > 0 {
				l = append(l, ack(0, 1, api.Range{From: n, To: top}), got(n, 1, api.Range{From: 0, To: n}))
				l = append(l, got(top, 1, api.Range{From: n - 1, To: n}))
			}
			if n < top-1 {
				l = append(l, ack(n, 1, api.Range{From: n + 1, To: n + 2}), ack(n, n+1, api.Range{From: n + 1, To: top}))
			}
			for _, f := range l {
				if f.Ranges != nil && f.Ranges[0].From >= f.Ranges[0].To {
					isWrong(t, "no numbers", f)
					continue
				}
				isSize(t, f, len(bytesOf(f)))
				isEncoded(t, []api.Frame{f}, bytesOf(f))
				isDecoded(t, bytesOf(f), []api.Frame{f})
			}
		}
	}
}

// roomy is a list of the frames with room behind it and behind each list of them, filled with what must stay.
func roomy(l []api.Frame) []api.Frame {
	room := make([]api.Frame, 0, len(l)+3)
	for _, f := range l {
		f.Ranges = append(append([]api.Range(nil), f.Ranges...), spread(1000, 9, 1, 1)...)[:len(f.Ranges)]
		f.Bytes = append(bytes.Clone(f.Bytes), text(200)...)[:len(f.Bytes)]
		room = append(room, f)
	}
	return append(room, closing(77), update(78))[:len(l)]
}

// whole are the frames with all the room behind each list.
func whole(l []api.Frame) []api.Frame {
	var all []api.Frame
	for _, f := range l[:cap(l)] {
		f.Ranges = slices.Clone(f.Ranges[:cap(f.Ranges)])
		f.Bytes = bytes.Clone(f.Bytes[:cap(f.Bytes)])
		all = append(all, f)
	}
	return all
}

// P10.1, P10.2: the frames that are handed in stay as they were, with the room behind each list, and the bytes are the caller's
// own: neither hangs on what becomes of the other.
func TestEncodeLeavesWhatItIsGiven(t *testing.T) {
	var good, bad [][]api.Frame
	for _, k := range ordinary() {
		good = append(good, []api.Frame{k.f}, []api.Frame{closing(1), k.f}, []api.Frame{k.f, data(9, text(20)), k.f})
	}
	for _, f := range wrong() {
		bad = append(bad, []api.Frame{f}, []api.Frame{data(1, text(3)), f})
	}
	bad = append(bad, slices.Repeat([]api.Frame{data(1, text(3))}, 17), slices.Repeat([]api.Frame{data(1, text(128))}, 3))
	for _, l := range append(good, bad...) {
		room := roomy(l)
		kept := whole(room)
		for _, f := range room {
			frames.Check(f)
			frames.Size(f)
		}
		b, e := frames.Encode(room)
		again, _ := frames.Encode(room)
		want := bytes.Clone(b)
		if !reflect.DeepEqual(whole(room), kept) {
			t.Errorf("%+v: it, or what is behind it, is changed", l)
		}
		sample.Spoil(b)
		if !reflect.DeepEqual(whole(room), kept) || !bytes.Equal(again, want) {
			t.Errorf("%+v: it, or a second answer, is changed with the first", l)
		}
		for i := range room {
			sample.Spoil(room[i].Bytes)
			spoilRanges(room[i].Ranges)
			room[i].Token[0] ^= 1
		}
		if later, f := frames.Encode(l); f != e || !bytes.Equal(later, want) || !bytes.Equal(again, want) {
			t.Errorf("%+v: another answer without room, or one that is changed with it", l)
		}
	}
}

// The same call answers the same, whatever was asked ahead of it.
func TestNothingIsKept(t *testing.T) {
	l := ordinary()
	for _, k := range l {
		for _, other := range l {
			frames.Decode(sample.Hex(other.b)[:1])
			frames.Encode([]api.Frame{other.f, {}})
			isDecoded(t, sample.Hex(k.b), []api.Frame{k.f})
			isEncoded(t, []api.Frame{k.f}, sample.Hex(k.b))
		}
	}
}

// record is a row of frames as an end would send it.
func record() []api.Frame {
	return []api.Frame{
		response(token), update(3), got(1000, 3, spread(900, 8, 4, 4)...),
		ack(1<<20, 1<<20+2048, spread(1<<20+100, 8, 100, 20)...), data(5000, text(96)),
	}
}

func BenchmarkEncode(b *testing.B) {
	for b.Loop() {
		frames.Encode(record())
	}
}

func BenchmarkDecode(b *testing.B) {
	all, e := frames.Encode(record())
	if e != api.OK {
		b.Fatal(e)
	}
	for b.Loop() {
		frames.Decode(all)
	}
}
