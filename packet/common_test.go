package packet_test

import (
	"bytes"
	"math"
	"testing"

	"sheave/api"
	"sheave/packet"
	"sheave/sample"
)

const lastCounter = 1<<48 - 1

// What a record's fields are tried with: the edges, what is beside them, and what would be another number in fewer bytes.
var (
	kinds    = []int{1, 2, 3, 0, -1, -3, 4, 5, 255, 256, 257, 259, 1<<32 + 3, math.MinInt, math.MinInt + 3, math.MaxInt}
	roles    = []int{0, 1, -1, 2, 3, 255, 256, 257, 1 << 32, math.MinInt, math.MaxInt}
	pathIDs  = []int{0, 1, 2, 127, 128, 254, 255, -1, 256, 257, 511, 65536, 1 << 32, math.MinInt, math.MaxInt}
	epochs   = []int{0, 1, 255, 256, 258, 65534, 65535, -1, 65536, 65537, 1<<32 + 1, math.MinInt, math.MaxInt}
	counters = []int{
		0, 1, 255, 256, 1 << 16, 1<<24 - 1, 1 << 32, 0x010203040506, lastCounter - 1, lastCounter,
		-1, 1 << 48, 1<<48 + 1, 1<<49 - 1, 1 << 56, 1<<62 + 7, math.MinInt, math.MaxInt,
	}
	sizes = []int{0, 1, 2, 15, 16, 17, 255, 256, 271, 272, 273, 299, 300, 301, 302, 512, 1 << 16}
)

func text(many int) []byte { return sample.Drawn(uint64(many), many) }

func hello(body []byte) api.Packet { return api.Packet{Kind: 1, Body: body} }

func reply(body []byte) api.Packet { return api.Packet{Kind: 2, Body: body} }

func record(role, path, epoch, counter int, body []byte) api.Packet {
	return api.Packet{Kind: 3, Role: role, Path: path, Epoch: epoch, Counter: counter, Body: body}
}

// known is a packet with what is ahead of its body, and a record's nonce; both written out.
type known struct {
	p           api.Packet
	head, nonce string
}

func ordinary() []known {
	none := "000000000000000000000000"
	return []known{
		{hello(text(1)), "01", none},
		{hello([]byte{0}), "01", none},
		{hello([]byte{3}), "01", none},
		{hello(text(16)), "01", none},
		{hello(text(96)), "01", none},
		{hello(text(299)), "01", none},
		{hello(text(300)), "01", none},
		{reply(text(1)), "02", none},
		{reply(text(26)), "02", none},
		{reply(text(48)), "02", none},
		{reply(text(300)), "02", none},
		{record(1, 2, 3, 4, make([]byte, 16)), "0301020003000000000004", "020003000000000000000004"},
		{record(0, 0, 0, 0, make([]byte, 16)), "0300000000000000000000", none},
		{record(0, 0, 0, 0, text(272)), "0300000000000000000000", none},
		{record(1, 0, 0, 1, text(17)), "0301000000000000000001", "000000000000000000000001"},
		{record(1, 255, 65535, lastCounter, text(272)), "0301ffffffffffffffffff", "ffffff000000ffffffffffff"},
		{record(0, 255, 65535, lastCounter, text(16)), "0300ffffffffffffffffff", "ffffff000000ffffffffffff"},
		{record(0, 16, 0x0102, 0x030405060708, text(271)), "0300100102030405060708", "100102000000030405060708"},
		{record(1, 128, 256, 1<<40, text(100)), "0301800100010000000000", "800100000000010000000000"},
		{record(0, 7, 255, 255, text(200)), "03000700ff0000000000ff", "0700ff0000000000000000ff"},
		{record(1, 1, 0, lastCounter-1, text(16)), "0301010000fffffffffffe", "010000000000fffffffffffe"},
	}
}

func (k known) bytes() []byte { return append(sample.Hex(k.head), k.p.Body...) }

// may tells whether a packet may be, by the chapter's paragraph, word for word.
func may(p api.Packet) bool {
	if p.Kind == 1 || p.Kind == 2 {
		return len(p.Body) >= 1 && len(p.Body) <= 300 && p.Role == 0 && p.Path == 0 && p.Epoch == 0 && p.Counter == 0
	}
	return p.Kind == 3 && (p.Role == 0 || p.Role == 1) && p.Path >= 0 && p.Path < 256 && p.Epoch >= 0 && p.Epoch < 65536 &&
		p.Counter >= 0 && p.Counter < 1<<48 && len(p.Body) > 15 && len(p.Body) < 273
}

// headOf is a record's head, reckoned by division.
func headOf(p api.Packet) []byte {
	h := []byte{3, byte(p.Role), byte(p.Path), byte(p.Epoch / 256), byte(p.Epoch % 256), 0, 0, 0, 0, 0, 0}
	for at, n := 10, p.Counter; n > 0; at, n = at-1, n/256 {
		h[at] = byte(n % 256)
	}
	return h
}

// bytesOf are the bytes of a packet that may be.
func bytesOf(p api.Packet) []byte {
	if p.Kind != 3 {
		return append([]byte{byte(p.Kind)}, p.Body...)
	}
	return append(headOf(p), p.Body...)
}

// nonceOf is the nonce of a record that may be.
func nonceOf(p api.Packet) (n api.Nonce) {
	h := headOf(p)
	for i := range 3 {
		n[i] = h[2+i]
	}
	for i := range 6 {
		n[6+i] = h[5+i]
	}
	return n
}

// model parses by the words of P11.1.
func model(b []byte) (p api.Packet, e api.Errno) {
	switch {
	case len(b) == 0, b[0] == 3 && len(b) < 27:
		return p, api.ErrShort
	case (b[0] == 1 || b[0] == 2) && len(b) > 1 && len(b) < 302:
		return api.Packet{Kind: int(b[0]), Body: b[1:]}, api.OK
	case b[0] == 3 && b[1] < 2 && len(b) < 284:
		p = record(int(b[1]), int(b[2]), int(b[3])*256+int(b[4]), 0, b[11:])
		for _, digit := range b[5:11] {
			p.Counter = p.Counter*256 + int(digit)
		}
		return p, api.OK
	}
	return p, api.ErrPacket
}

func equal(p, q api.Packet) bool {
	return p.Kind == q.Kind && p.Role == q.Role && p.Path == q.Path && p.Epoch == q.Epoch && p.Counter == q.Counter &&
		bytes.Equal(p.Body, q.Body)
}

// told is a packet for a test's words, without the bytes of a long body.
func told(p api.Packet) []int {
	return []int{p.Kind, p.Role, p.Path, p.Epoch, p.Counter, len(p.Body)}
}

func isPrinted(t *testing.T, p api.Packet, want []byte) {
	t.Helper()
	if b, e := packet.Print(p); e != api.OK || !bytes.Equal(b, want) {
		t.Errorf("%v: %x, error %d, not %x", told(p), b, e, want)
	}
}

// hasOpenParts holds a packet's head and nonce to what they should be.
func hasOpenParts(t *testing.T, p api.Packet, head []byte, nonce api.Nonce) {
	t.Helper()
	if h := packet.Head(p); !bytes.Equal(h, head) {
		t.Errorf("%v: head %x, not %x", told(p), h, head)
	}
	if n := packet.Nonce(p); n != nonce {
		t.Errorf("%v: nonce %x, not %x", told(p), n, nonce)
	}
}

// isWrong holds a packet to be one that may not be, for each call.
func isWrong(t *testing.T, p api.Packet) {
	t.Helper()
	if b, e := packet.Print(p); e != api.ErrPacket || len(b) != 0 {
		t.Errorf("%v: %x, error %d", told(p), b, e)
	}
	hasOpenParts(t, p, nil, api.Nonce{})
}

// isAsSaid holds what is answered for a packet to the test's own reckoning.
func isAsSaid(t *testing.T, p api.Packet) {
	t.Helper()
	switch {
	case !may(p):
		isWrong(t, p)
	case p.Kind == 3:
		isPrinted(t, p, bytesOf(p))
		hasOpenParts(t, p, headOf(p), nonceOf(p))
	default:
		isPrinted(t, p, bytesOf(p))
		hasOpenParts(t, p, nil, api.Nonce{})
	}
}

func isParsed(t *testing.T, b []byte, want api.Packet) {
	t.Helper()
	if p, e := packet.Parse(b); e != api.OK || !equal(p, want) {
		t.Errorf("%x: %+v, error %d, not %+v", b, p, e, want)
	}
}

func isNotParsed(t *testing.T, b []byte, want api.Errno) {
	t.Helper()
	if p, e := packet.Parse(b); e != want || !equal(p, api.Packet{}) {
		t.Errorf("%x, %d bytes: %+v, error %d, not %d", b[:min(len(b), 12)], len(b), p, e, want)
	}
}

// isReadAsSaid holds what is parsed to the test's own reckoning.
func isReadAsSaid(t *testing.T, b []byte) {
	t.Helper()
	if p, e := model(b); e == api.OK {
		isParsed(t, b, p)
	} else {
		isNotParsed(t, b, e)
	}
}
