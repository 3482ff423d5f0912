package octets_test

import (
	"bytes"
	"encoding/binary"
	"math"
	"math/big"
	"slices"
	"strconv"
	"strings"
	"testing"

	"sheave/api"
	"sheave/octets"
	"sheave/sample"
)

// sizes are those that a number may have whose bytes are told beside it.
var sizes = []int{1, 2, 3, 4, 5, 6, 7}

// wrongSizes are too small or too great; some of them would be right, if only their lowest bits counted.
var wrongSizes = []int{
	math.MinInt, math.MinInt + 1, math.MinInt + 7, -1<<32 + 1, -256, -255, -8, -7, -2, -1, 0,
	8, 9, 16, 63, 64, 255, 256, 257, 1 << 31, 1<<32 + 1, math.MaxInt - 1, math.MaxInt,
}

// lengths are those of texts at which the number ahead of them gets longer, or nearly.
var lengths = []int{0, 1, 2, 62, 63, 64, 65, 255, 256, 1<<14 - 1, 1 << 14, 1<<14 + 1, 1 << 16}

// around are the numbers at and beside each power of two up to that exponent, and below each one some without a rule.
func around(exponent int) []int {
	l := []int{0}
	drawn := sample.Drawn(uint64(exponent), 8*(exponent+1))
	for e := range exponent + 1 {
		n := int(binary.BigEndian.Uint64(drawn[8*e:]) >> 1)
		l = append(l, 1<<e-1, 1<<e, 1<<e+1, n&(1<<e-1))
	}
	slices.Sort(l)
	return slices.Compact(l)
}

// numbers are those that may be put in their least bytes.
func numbers() []int {
	l := around(62)
	return l[:slices.Index(l, 1<<62)]
}

// fixed are the numbers that may be put in so many bytes.
func fixed(size int) []int {
	l := around(8 * size)
	return l[:slices.Index(l, 1<<(8*size))]
}

// others are bytes that may stand ahead of what is put, or behind what is taken.
func others() [][]byte {
	return [][]byte{nil, {}, {0}, {0x3f}, {0x40}, {0x80}, {0xff}, sample.Drawn(1, 9), sample.Drawn(2, 70)}
}

// fronts are 0 to 9 bytes with each first byte, the others noughts, ones or without a rule.
func fronts() [][]byte {
	l := sample.Kinds(0)
	for many := 1; many < 10; many++ {
		for first := range 256 {
			for _, b := range sample.Kinds(many) {
				b[0] = byte(first)
				l = append(l, b)
			}
		}
	}
	return l
}

// leastOf are a number's least bytes, by the library and by the chapter's first paragraph word for word.
func leastOf(n int) []byte {
	var b [8]byte
	switch {
	case n <= 63:
		return []byte{byte(n)}
	case n <= 1<<14-1:
		binary.BigEndian.PutUint16(b[:], uint16(n)|1<<14)
		return b[:2]
	case n <= 1<<30-1:
		binary.BigEndian.PutUint32(b[:], uint32(n)|2<<30)
		return b[:4]
	}
	binary.BigEndian.PutUint64(b[:], uint64(n)|3<<62)
	return b[:]
}

// fixedOf are a number's bytes, by the library.
func fixedOf(n, size int) []byte { return big.NewInt(int64(n)).FillBytes(make([]byte, size)) }

func isBytes(t *testing.T, what string, got []byte, err api.Errno, want []byte) {
	t.Helper()
	if err != api.OK || !bytes.Equal(got, want) {
		t.Errorf("%s: %x, error %d, not %x", what, got, err, want)
	}
}

func isNone(t *testing.T, what string, got []byte, err, want api.Errno) {
	t.Helper()
	if err != want || got != nil {
		t.Errorf("%s: %x, error %d, not %d", what, got, err, want)
	}
}

func isNumber(t *testing.T, from []byte, n int, rest []byte, err api.Errno, want int, behind []byte) {
	t.Helper()
	if err != api.OK || n != want || !bytes.Equal(rest, behind) {
		t.Errorf("of %x: %d, and %x, error %d, not %d, and %x", from, n, rest, err, want, behind)
	}
}

func isNoNumber(t *testing.T, from []byte, n int, rest []byte, err, want api.Errno) {
	t.Helper()
	if err != want || n != 0 || rest != nil {
		t.Errorf("of %x: %d, and %x, error %d, not %d", from, n, rest, err, want)
	}
}

func isText(t *testing.T, from, text, rest []byte, err api.Errno, want, behind []byte) {
	t.Helper()
	if err != api.OK || !bytes.Equal(text, want) || !bytes.Equal(rest, behind) {
		t.Errorf("of %x: %x, and %x, error %d, not %x, and %x", from, text, rest, err, want, behind)
	}
}

func isNoText(t *testing.T, from []byte, most int, text, rest []byte, err, want api.Errno) {
	t.Helper()
	if err != want || text != nil || rest != nil {
		t.Errorf("of %x, at most %d: %x, and %x, error %d, not %d", from, most, text, rest, err, want)
	}
}

// P9.1, P9.2, P9.3: the chapter's examples.
func TestExamples(t *testing.T) {
	for n, want := range map[int]string{63: "3f", 64: "4040", 16384: "80004000"} {
		b, err := octets.PutVar(nil, n)
		isBytes(t, "PutVar", b, err, sample.Hex(want))
	}
	for s, want := range map[string]api.Errno{"403f": api.ErrCode, "40": api.ErrShort, "": api.ErrShort} {
		n, rest, err := octets.TakeVar(sample.Hex(s))
		isNoNumber(t, sample.Hex(s), n, rest, err, want)
	}
	n, rest, err := octets.TakeVar([]byte{5, 6})
	isNumber(t, []byte{5, 6}, n, rest, err, 5, []byte{6})

	b, err := octets.PutFixed(nil, 256, 1)
	isNone(t, "256 in one byte", b, err, api.ErrArg)
	b, err = octets.PutFixed(nil, 258, 2)
	isBytes(t, "258 in two bytes", b, err, []byte{1, 2})
	n, rest, err = octets.TakeFixed([]byte{1}, 2)
	isNoNumber(t, []byte{1}, n, rest, err, api.ErrShort)

	text, rest, err := octets.TakeBytes([]byte("\x02abc"), 9)
	isText(t, []byte("\x02abc"), text, rest, err, []byte("ab"), []byte("c"))
	text, rest, err = octets.TakeBytes([]byte("\x02ab"), 1)
	isNoText(t, []byte("\x02ab"), 1, text, rest, err, api.ErrLong)
	text, rest, err = octets.TakeBytes([]byte("\x03a"), 9)
	isNoText(t, []byte("\x03a"), 9, text, rest, err, api.ErrShort)
}

// P9.1: the edges, and the numbers that RFC 9000 (A.1) has in the same bytes.
func TestVarOfKnown(t *testing.T) {
	for n, want := range map[int]string{
		0: "00", 1: "01", 37: "25", 63: "3f", 64: "4040", 65: "4041", 255: "40ff", 256: "4100", 15293: "7bbd", 1<<14 - 1: "7fff",
		1 << 14: "80004000", 1<<14 + 1: "80004001", 494878333: "9d7f3e7d", 1<<30 - 1: "bfffffff",
		1 << 30: "c000000040000000", 1<<30 + 1: "c000000040000001", 1 << 32: "c000000100000000",
		151288809941952652: "c2197c5eff14e88c", 1<<62 - 2: "fffffffffffffffe", 1<<62 - 1: "ffffffffffffffff",
	} {
		b, err := octets.PutVar(nil, n)
		isBytes(t, "PutVar", b, err, sample.Hex(want))
		got, rest, err := octets.TakeVar(sample.Hex(want))
		isNumber(t, sample.Hex(want), got, rest, err, n, nil)
	}
}

// P9.1: numbers at and beside each power of two, behind other bytes.
func TestPutVar(t *testing.T) {
	for _, n := range numbers() {
		for _, ahead := range others() {
			b, err := octets.PutVar(ahead, n)
			isBytes(t, "PutVar", b, err, slices.Concat(ahead, leastOf(n)))
		}
	}
}

// P9.1: numbers that are below 0 or above 2^62 - 1.
func TestPutVarTellsErrors(t *testing.T) {
	for _, n := range []int{
		math.MinInt, math.MinInt + 1, math.MinInt + 63, -1 << 62, -1 << 32, -1<<32 + 5, -1 << 14, -256, -64, -63, -2, -1,
		1 << 62, 1<<62 + 1, 1<<62 + 63, math.MaxInt - 1, math.MaxInt,
	} {
		for _, ahead := range others() {
			b, err := octets.PutVar(ahead, n)
			isNone(t, "PutVar", b, err, api.ErrArg)
		}
	}
}

// P9.1: the same numbers taken, with other bytes behind, and cut at each place.
func TestTakeVar(t *testing.T) {
	for _, n := range numbers() {
		b := leastOf(n)
		for _, behind := range others() {
			all := slices.Concat(b, behind)
			got, rest, err := octets.TakeVar(all)
			isNumber(t, all, got, rest, err, n, behind)
		}
		for cut := range b {
			got, rest, err := octets.TakeVar(b[:cut])
			isNoNumber(t, b[:cut], got, rest, err, api.ErrShort)
		}
	}
}

// P9.1: 0 to 9 bytes with each first byte, as the chapter's words tell them.
func TestTakeVarOfEachFirstByte(t *testing.T) {
	for _, b := range fronts() {
		n, rest, err := octets.TakeVar(b)
		told := 0
		if len(b) > 0 {
			told = int(b[0] >> 6)
		}
		many := []int{1, 2, 4, 8}[told]
		if len(b) < many {
			isNoNumber(t, b, n, rest, err, api.ErrShort)
			continue
		}
		word := append(make([]byte, 8-many), b[:many]...)
		word[8-many] &= 0x3f
		want := int(binary.BigEndian.Uint64(word))
		if least := []int{0, 1 << 6, 1 << 14, 1 << 30}[told]; want < least {
			isNoNumber(t, b, n, rest, err, api.ErrCode)
		} else {
			isNumber(t, b, n, rest, err, want, b[many:])
		}
	}
}

// P9.1: a number in more bytes than it needs is refused, up to the greatest that has fewer; one that is not whole is short,
// whatever it would be.
func TestTakeVarOfTooManyBytes(t *testing.T) {
	for told, least := range map[int]int{1: 1 << 6, 2: 1 << 14, 3: 1 << 30} {
		many := 1 << told
		for _, n := range numbers() {
			if n > least {
				break
			}
			b := fixedOf(n, many)
			b[0] |= byte(told << 6)
			for _, behind := range others() {
				all := slices.Concat(b, behind)
				got, rest, err := octets.TakeVar(all)
				if n < least {
					isNoNumber(t, all, got, rest, err, api.ErrCode)
				} else {
					isNumber(t, all, got, rest, err, n, behind)
				}
			}
			for cut := range b {
				got, rest, err := octets.TakeVar(b[:cut])
				isNoNumber(t, b[:cut], got, rest, err, api.ErrShort)
			}
		}
	}
}

// P9.2: numbers at and beside each power of two, in each size that they fit in, behind other bytes.
func TestPutFixed(t *testing.T) {
	for _, size := range sizes {
		for _, n := range fixed(size) {
			for _, ahead := range others() {
				b, err := octets.PutFixed(ahead, n, size)
				isBytes(t, "PutFixed", b, err, slices.Concat(ahead, fixedOf(n, size)))
			}
		}
	}
}

// P9.2: numbers that are below 0 or do not fit, at 256 to the power of the size and beside it.
func TestPutFixedTellsNumbers(t *testing.T) {
	for _, size := range sizes {
		end := 1 << (8 * size)
		for _, n := range []int{
			math.MinInt, math.MinInt + 1, -end - 1, -end, -end + 1, -256, -2, -1,
			end, end + 1, 2*end - 1, 2 * end, end * 64, math.MaxInt - 1, math.MaxInt,
		} {
			for _, ahead := range others() {
				b, err := octets.PutFixed(ahead, n, size)
				isNone(t, "PutFixed", b, err, api.ErrArg)
			}
		}
		b, err := octets.PutFixed(nil, end-1, size)
		isBytes(t, "the greatest", b, err, bytes.Repeat([]byte{0xff}, size))
	}
}

// P9.2: sizes that there are none of, with any number.
func TestPutFixedTellsSizes(t *testing.T) {
	for _, size := range wrongSizes {
		for _, n := range append(around(62), math.MinInt, -1, math.MaxInt) {
			b, err := octets.PutFixed([]byte{1}, n, size)
			isNone(t, "PutFixed", b, err, api.ErrArg)
		}
	}
}

// P9.2: the same numbers taken, with other bytes behind, and cut at each place.
func TestTakeFixed(t *testing.T) {
	for _, size := range sizes {
		for _, n := range fixed(size) {
			b := fixedOf(n, size)
			for _, behind := range others() {
				all := slices.Concat(b, behind)
				got, rest, err := octets.TakeFixed(all, size)
				isNumber(t, all, got, rest, err, n, behind)
			}
			for cut := range b {
				got, rest, err := octets.TakeFixed(b[:cut], size)
				isNoNumber(t, b[:cut], got, rest, err, api.ErrShort)
			}
		}
	}
}

// P9.2: 0 to 9 bytes of each kind, in each size; no bytes are refused that are short of nothing.
func TestTakeFixedOfKinds(t *testing.T) {
	for many := range 10 {
		for _, b := range sample.Kinds(many) {
			for _, size := range sizes {
				n, rest, err := octets.TakeFixed(b, size)
				if many < size {
					isNoNumber(t, b, n, rest, err, api.ErrShort)
				} else {
					isNumber(t, b, n, rest, err, int(new(big.Int).SetBytes(b[:size]).Int64()), b[size:])
				}
			}
		}
	}
}

// P9.2: sizes that there are none of, also where there would be too few bytes.
func TestTakeFixedTellsSizes(t *testing.T) {
	for _, size := range wrongSizes {
		for many := range 10 {
			for _, b := range sample.Kinds(many) {
				n, rest, err := octets.TakeFixed(b, size)
				isNoNumber(t, b, n, rest, err, api.ErrArg)
			}
		}
		n, rest, err := octets.TakeFixed(nil, size)
		isNoNumber(t, nil, n, rest, err, api.ErrArg)
	}
}

// P9.3: texts at which the number ahead of them gets longer, written out.
func TestBytesOfKnown(t *testing.T) {
	for many, want := range map[int]string{
		0: "\x00", 1: "\x01", 63: "\x3f", 64: "\x40\x40", 65: "\x40\x41", 1<<14 - 1: "\x7f\xff", 1 << 14: "\x80\x00\x40\x00",
	} {
		text := strings.Repeat("t", many)
		b, err := octets.PutBytes([]byte("a"), []byte(text))
		isBytes(t, "PutBytes", b, err, []byte("a"+want+text))
		got, rest, err := octets.TakeBytes([]byte(want+text+"z"), many)
		isText(t, []byte(want), got, rest, err, []byte(text), []byte("z"))
	}
}

// P9.3: texts of all lengths up to some, and longer ones, behind other bytes; no text is one of no bytes.
func TestPutBytes(t *testing.T) {
	for many := range 1<<14 + 2 {
		if many > 300 && many%1021 > 1 && many < 1<<14-2 {
			continue
		}
		for _, text := range sample.Kinds(many) {
			b, err := octets.PutBytes(nil, text)
			isBytes(t, "PutBytes", b, err, slices.Concat(leastOf(many), text))
		}
	}
	for _, ahead := range others() {
		for _, many := range lengths {
			b, err := octets.PutBytes(ahead, sample.Drawn(3, many))
			isBytes(t, "PutBytes", b, err, slices.Concat(ahead, leastOf(many), sample.Drawn(3, many)))
		}
		b, err := octets.PutBytes(ahead, nil)
		isBytes(t, "PutBytes", b, err, slices.Concat(ahead, []byte{0}))
	}
}

// P9.3: the same texts taken, with other bytes behind; as many as there may be, or fewer.
func TestTakeBytes(t *testing.T) {
	for _, many := range lengths {
		for _, text := range sample.Kinds(many) {
			for _, behind := range others() {
				all := slices.Concat(leastOf(many), text, behind)
				for _, most := range []int{many, many + 1, many + 64, 1 << 20, math.MaxInt - 1, math.MaxInt} {
					got, rest, err := octets.TakeBytes(all, most)
					isText(t, all, got, rest, err, text, behind)
				}
			}
		}
	}
}

// P9.3: more bytes than there may be, whole or cut off; most may be below 0, and then there is no text at all.
func TestTakeBytesTellsLongOnes(t *testing.T) {
	for _, many := range lengths {
		head := leastOf(many)
		all := slices.Concat(head, sample.Drawn(4, many+1))
		for _, most := range []int{math.MinInt, math.MinInt + 1, -1 << 32, -1 << 14, -64, -2, -1, 0, many / 2, many - 2, many - 1} {
			if most >= many {
				continue
			}
			for _, end := range []int{len(all), len(all) - 1, len(head) + many/2, len(head)} {
				text, rest, err := octets.TakeBytes(all[:end], most)
				isNoText(t, all[:end], most, text, rest, err, api.ErrLong)
			}
		}
	}
	for _, n := range numbers()[1:] {
		for _, most := range []int{-1, 0, n - 1} {
			text, rest, err := octets.TakeBytes(leastOf(n), most)
			isNoText(t, leastOf(n), most, text, rest, err, api.ErrLong)
		}
	}
}

// P9.3: fewer bytes than are told, cut at each place (of long texts at some), however many may be.
func TestTakeBytesTellsShortOnes(t *testing.T) {
	for _, many := range lengths {
		head := leastOf(many)
		all := slices.Concat(head, sample.Drawn(5, many))
		for cut := range all {
			if cut > 80 && cut%1021 > 1 && cut < len(all)-2 {
				continue
			}
			for _, most := range []int{many, many + 1, math.MaxInt} {
				text, rest, err := octets.TakeBytes(all[:cut], most)
				isNoText(t, all[:cut], most, text, rest, err, api.ErrShort)
			}
			if cut < len(head) {
				// What is told is not known yet: it is short, whatever may be.
				text, rest, err := octets.TakeBytes(all[:cut], -1)
				isNoText(t, all[:cut], -1, text, rest, err, api.ErrShort)
			}
		}
	}
	for _, n := range numbers() {
		if n > 10 {
			b := append(leastOf(n), sample.Drawn(6, 10)...)
			for _, most := range []int{n, math.MaxInt} {
				text, rest, err := octets.TakeBytes(b, most)
				isNoText(t, b, most, text, rest, err, api.ErrShort)
			}
		}
	}
}

// P9.3: TakeVar's error comes first, also where the text would be too long or not whole.
func TestTakeBytesTellsTakeVarsError(t *testing.T) {
	for _, b := range fronts() {
		_, _, want := octets.TakeVar(b)
		if want == api.OK {
			continue
		}
		for _, most := range []int{math.MinInt, -1, 0, 1, 9, 1 << 30, math.MaxInt} {
			text, rest, err := octets.TakeBytes(b, most)
			isNoText(t, b, most, text, rest, err, want)
		}
	}
	for _, s := range []string{"\x40\x02ab", "\x40\x3f", "\x80\x00\x00\x02ab", "\xc0\x00\x00\x00\x00\x00\x00\x02ab"} {
		for _, most := range []int{math.MinInt, -1, 0, 1, 2, 9, math.MaxInt} {
			text, rest, err := octets.TakeBytes([]byte(s), most)
			isNoText(t, []byte(s), most, text, rest, err, api.ErrCode)
		}
	}
}

// putting are the calls that put, each with what it lays behind.
func putting() map[string]func(b []byte) ([]byte, api.Errno) {
	l := map[string]func(b []byte) ([]byte, api.Errno){
		"a number below 0":  func(b []byte) ([]byte, api.Errno) { return octets.PutVar(b, -1) },
		"a size of 8":       func(b []byte) ([]byte, api.Errno) { return octets.PutFixed(b, 1, 8) },
		"1 in one byte":     func(b []byte) ([]byte, api.Errno) { return octets.PutFixed(b, 1, 1) },
		"1 in seven bytes":  func(b []byte) ([]byte, api.Errno) { return octets.PutFixed(b, 1, 7) },
		"no text":           func(b []byte) ([]byte, api.Errno) { return octets.PutBytes(b, nil) },
		"a text":            func(b []byte) ([]byte, api.Errno) { return octets.PutBytes(b, []byte("text")) },
		"a text of 64":      func(b []byte) ([]byte, api.Errno) { return octets.PutBytes(b, sample.Drawn(7, 64)) },
		"256 in one byte":   func(b []byte) ([]byte, api.Errno) { return octets.PutFixed(b, 256, 1) },
		"a number too long": func(b []byte) ([]byte, api.Errno) { return octets.PutVar(b, 1<<62) },
	}
	for _, n := range []int{0, 64, 1 << 14, 1 << 30} {
		l[strconv.Itoa(n)] = func(b []byte) ([]byte, api.Errno) { return octets.PutVar(b, n) }
	}
	return l
}

// P9.1, P9.2, P9.3: what stands ahead stays as it was, with the room behind it, and what is answered shares nothing with it.
func TestPutLeavesWhatItIsGiven(t *testing.T) {
	for what, put := range putting() {
		for _, many := range []int{0, 1, 7, 64} {
			room := sample.Drawn(8, many+100)
			kept := bytes.Clone(room)
			got, err := put(room[:many])
			again, _ := put(room[:many])
			if !bytes.Equal(room, kept) {
				t.Errorf("%s behind %d bytes: they, or what is behind them, are changed", what, many)
			}
			want := bytes.Clone(got)
			sample.Spoil(got)
			if !bytes.Equal(room, kept) || !bytes.Equal(again, want) {
				t.Errorf("%s behind %d bytes: they or a second answer are changed with the first", what, many)
			}
			sample.Spoil(room)
			if later, e := put(kept[:many:many]); !bytes.Equal(later, want) || !bytes.Equal(again, want) || e != err {
				t.Errorf("%s behind %d bytes: another answer without room, or one that is changed with them", what, many)
			}
		}
	}
}

// P9.3: a text that is put stays as it was, with the room behind it, also where both are of one memory.
func TestPutBytesLeavesTheText(t *testing.T) {
	for _, many := range lengths {
		room := sample.Drawn(9, many+100)
		kept := bytes.Clone(room)
		got, err := octets.PutBytes([]byte("ahead"), room[:many])
		want := slices.Concat([]byte("ahead"), leastOf(many), kept[:many])
		isBytes(t, "PutBytes", got, err, want)
		sample.Spoil(got)
		if !bytes.Equal(room, kept) {
			t.Errorf("%d bytes: the text, or what is behind it, is changed", many)
		}
		got, err = octets.PutBytes([]byte("ahead"), room[:many])
		sample.Spoil(room)
		isBytes(t, "PutBytes, with the text changed later", got, err, want)

		one := bytes.Clone(kept)
		got, err = octets.PutBytes(one[:many/2], one[:many])
		isBytes(t, "both of one memory", got, err, slices.Concat(kept[:many/2], leastOf(many), kept[:many]))
		got, err = octets.PutBytes(one[:many], one[many:many+9])
		isBytes(t, "a text in the room", got, err, slices.Concat(kept[:many], []byte{9}, kept[many:many+9]))
		if !bytes.Equal(one, kept) {
			t.Errorf("%d bytes: one memory is changed", many)
		}
	}
}

// taking are the calls that take, with what they answer as lists.
func taking() map[string]func(b []byte) [][]byte {
	return map[string]func(b []byte) [][]byte{
		"TakeVar": func(b []byte) [][]byte {
			_, rest, _ := octets.TakeVar(b)
			return [][]byte{rest}
		},
		"TakeFixed": func(b []byte) [][]byte {
			_, rest, _ := octets.TakeFixed(b, 3)
			return [][]byte{rest}
		},
		"TakeFixed of no size": func(b []byte) [][]byte {
			_, rest, _ := octets.TakeFixed(b, 8)
			return [][]byte{rest}
		},
		"TakeBytes": func(b []byte) [][]byte {
			text, rest, _ := octets.TakeBytes(b, 70)
			return [][]byte{text, rest}
		},
		"TakeBytes of none": func(b []byte) [][]byte {
			text, rest, _ := octets.TakeBytes(b, -1)
			return [][]byte{text, rest}
		},
	}
}

func cloned(l [][]byte) [][]byte {
	var c [][]byte
	for _, b := range l {
		c = append(c, bytes.Clone(b))
	}
	return c
}

func same(a, b [][]byte) bool { return slices.EqualFunc(a, b, bytes.Equal) }

// P9.1, P9.2, P9.3: what is taken from stays as it was, with the room behind it, which does not count; what is answered shares
// nothing with it, and a text nothing with what is behind it.
func TestTakeLeavesWhatItIsGiven(t *testing.T) {
	heads := [][]byte{nil, {0}, {5}, {63}, {0x40, 63}, {0x40, 64}, {0x80, 0, 0x40, 0}, {0xc0}, {0xff}}
	for what, take := range taking() {
		for _, head := range heads {
			for _, many := range []int{0, 1, 5, 64, 80} {
				all := slices.Concat(head, sample.Drawn(10, many))
				room := append(bytes.Clone(all), sample.Drawn(11, 100)...)
				kept := bytes.Clone(room)
				got, again := take(room[:len(all)]), take(room[:len(all)])
				if !bytes.Equal(room, kept) {
					t.Errorf("%s of %x: it, or what is behind it, is changed", what, all)
				}
				want := cloned(got)
				for i, b := range got {
					sample.Spoil(b)
					if !bytes.Equal(room, kept) || !same(again, want) || !same(got[i+1:], want[i+1:]) {
						t.Errorf("%s of %x: it or another answer is changed with answer %d", what, all, i)
					}
				}
				sample.Spoil(room)
				if later := take(all[:len(all):len(all)]); !same(later, want) || !same(again, want) {
					t.Errorf("%s of %x: another answer without room, or one that is changed with it", what, all)
				}
			}
		}
	}
}

// P9.4: a number that is put is taken, whatever stands ahead or behind.
func TestWhatIsPutIsTaken(t *testing.T) {
	for _, n := range numbers() {
		for _, behind := range others() {
			b, err := octets.PutVar([]byte("ahead"), n)
			if err != api.OK || !bytes.HasPrefix(b, []byte("ahead")) {
				t.Errorf("%d: %x, error %d", n, b, err)
				continue
			}
			all := append(b[5:], behind...)
			got, rest, err := octets.TakeVar(all)
			isNumber(t, all, got, rest, err, n, behind)
		}
	}
	for _, size := range sizes {
		for _, n := range fixed(size) {
			for _, behind := range others() {
				b, _ := octets.PutFixed(nil, n, size)
				all := append(b, behind...)
				got, rest, err := octets.TakeFixed(all, size)
				isNumber(t, all, got, rest, err, n, behind)
			}
		}
	}
	for _, many := range lengths {
		for _, text := range sample.Kinds(many) {
			for _, behind := range others() {
				b, _ := octets.PutBytes(nil, text)
				all := append(b, behind...)
				got, rest, err := octets.TakeBytes(all, many)
				isText(t, all, got, rest, err, text, behind)
			}
		}
	}
}

// P9.4: what is taken, and put, with what is behind, is all of it: over each two bytes at the front, and others behind.
func TestWhatIsTakenAndPut(t *testing.T) {
	taken := 0
	for front := range 1 << 16 {
		many := front % 11
		all := append([]byte{byte(front >> 8), byte(front)}, sample.Drawn(uint64(front), many)...)
		if n, rest, err := octets.TakeVar(all); err == api.OK {
			taken++
			b, err := octets.PutVar(nil, n)
			isBytes(t, "PutVar", append(b, rest...), err, all)
		}
		for _, size := range sizes {
			if n, rest, err := octets.TakeFixed(all, size); err == api.OK {
				taken++
				b, err := octets.PutFixed(nil, n, size)
				isBytes(t, "PutFixed", append(b, rest...), err, all)
			}
		}
		if text, rest, err := octets.TakeBytes(all, 9); err == api.OK {
			taken++
			b, err := octets.PutBytes(nil, text)
			isBytes(t, "PutBytes", append(b, rest...), err, all)
		}
	}
	if taken < 1<<16 {
		t.Errorf("only %d were taken", taken)
	}
}

// P9.4: several things put behind each other are taken in the same order, and nothing is left.
func TestRows(t *testing.T) {
	var b []byte
	for i, n := range numbers() {
		b, _ = octets.PutVar(b, n)
		b, _ = octets.PutBytes(b, sample.Drawn(uint64(i), i))
		b, _ = octets.PutFixed(b, i, 2)
	}
	for i, want := range numbers() {
		n, rest, err := octets.TakeVar(b)
		isNumber(t, nil, n, rest, err, want, rest)
		text, rest, err := octets.TakeBytes(rest, i)
		isText(t, nil, text, rest, err, sample.Drawn(uint64(i), i), rest)
		n, rest, err = octets.TakeFixed(rest, 2)
		isNumber(t, nil, n, rest, err, i, rest)
		b = rest
	}
	if len(b) != 0 {
		t.Errorf("%d bytes are left", len(b))
	}
}

func BenchmarkPutVar(b *testing.B) {
	ahead := sample.Drawn(12, 64)
	for b.Loop() {
		octets.PutVar(ahead, 1<<40)
	}
}

func BenchmarkTakeBytes(b *testing.B) {
	all, _ := octets.PutBytes(nil, sample.Drawn(13, 128))
	for b.Loop() {
		octets.TakeBytes(all, 128)
	}
}
