package desk_test

import (
	"bytes"
	"encoding/hex"
	"strings"
	"testing"

	"sheave/desk"
	"sheave/sample"
)

const digits = "0123456789abcdef"

// P24.1: the chapter's examples.
func TestHexExamples(t *testing.T) {
	if got := desk.Hex([]byte{0, 0xff}); got != "00ff" {
		t.Errorf("%q", got)
	}
	if b, is := desk.Bytes("0a"); !is || !bytes.Equal(b, []byte{10}) {
		t.Errorf("0a: %x %t", b, is)
	}
	hasNone(t, "0A")
	hasNone(t, "0")
}

// hasNone holds that a text is the Hex of no bytes.
func hasNone(t *testing.T, s string) {
	t.Helper()
	if b, is := desk.Bytes(s); is || b != nil {
		t.Errorf("%q: %x %t", s, b, is)
	}
}

// has holds that a text is the Hex of these bytes, and the other way round.
func has(t *testing.T, s string, want []byte) {
	t.Helper()
	if b, is := desk.Bytes(s); !is || !bytes.Equal(b, want) {
		t.Errorf("%q: %x %t, not %x", s, b, is, want)
	}
	if got := desk.Hex(want); got != s {
		t.Errorf("%x: %q, not %q", want, got, s)
	}
}

// P24.1: of no bytes, of one of each value, of two, of many.
func TestHexAndBytes(t *testing.T) {
	has(t, "", nil)
	has(t, "", []byte{})
	for high := range 16 {
		for low := range 16 {
			x, s := byte(16*high+low), digits[high:high+1]+digits[low:low+1]
			has(t, s, []byte{x})
			has(t, s+"07", []byte{x, 7})
			has(t, "f0"+s, []byte{0xf0, x})
		}
	}
	for _, many := range []int{3, 100, 255, 256, 257, 32764, 70000} {
		for _, b := range sample.Kinds(many) {
			has(t, hex.EncodeToString(b), b)
		}
	}
}

// P24.1: an odd number of digits, whichever they are.
func TestBytesOfAnOddNumberOfDigits(t *testing.T) {
	for i := range digits {
		hasNone(t, digits[i:i+1])
		hasNone(t, "00"+digits[i:i+1])
	}
	for _, many := range []int{3, 5, 77, 1001} {
		hasNone(t, strings.Repeat("a", many))
	}
}

// P24.1: each byte that is no digit, in each place, alone and among others: capital letters, signs, bytes beyond 127.
func TestBytesOfWhatIsNoDigit(t *testing.T) {
	for x := range 256 {
		c := string([]byte{byte(x)})
		if strings.Contains(digits, c) {
			continue
		}
		for _, s := range []string{c + "0", "0" + c, c + "f", "f" + c, c + c, "0a" + c + "0", "0a0" + c, c + "00a", "0" + c + "0a", "0a" + c + "00a", "0a0" + c + "0a", c} {
			hasNone(t, s)
		}
	}
	for _, s := range []string{"AB", "aB", "Ab", "FF", "0x", "0x00", "é", "éé", "٠١", "00 11", " 00", "00 ", "00\n", "\r\n", "-1", "+1", "1_"} {
		hasNone(t, s)
	}
	for place := range 200 {
		b := []byte(strings.Repeat("5c", 100))
		b[place] = 'C'
		hasNone(t, string(b))
	}
}

// R7: what is handed in stays as it was, with the room behind it; what is answered is the caller's own.
func TestHexAndBytesOwnNothing(t *testing.T) {
	b := sample.Roomy([]byte("some bytes"))
	whole := sample.Whole(b)
	s := desk.Hex(b)
	if !bytes.Equal(sample.Whole(b), whole) {
		t.Error("what was handed in is changed")
	}
	want := strings.Clone(s)
	sample.Spoil(b)
	if s != want {
		t.Error("what was handed in is kept")
	}
	x, _ := desk.Bytes(s)
	y, _ := desk.Bytes(s)
	sample.Spoil(x)
	if string(y) != "some bytes" || s != want {
		t.Errorf("two answers have something in common: %q", y)
	}
}
