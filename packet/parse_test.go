package packet_test

import (
	"bytes"
	"testing"

	"sheave/api"
	"sheave/packet"
	"sheave/sample"
)

// P11.1: 0 to 310 bytes of each first byte, of noughts, of ones and of others behind it.
func TestParseOfHowMany(t *testing.T) {
	for many := range 310 {
		for _, rest := range sample.Kinds(many) {
			for first := range 256 {
				isReadAsSaid(t, append([]byte{byte(first)}, rest...))
			}
		}
	}
	for _, many := range []int{511, 512, 513, 1<<16 + 1, 1<<16 + 27, 1 << 20} {
		for first := range 6 {
			isReadAsSaid(t, append([]byte{byte(first)}, make([]byte, many-1)...))
		}
	}
}

// P11.1: the edges of how many bytes there are, written out.
func TestParseOfEdges(t *testing.T) {
	errors := map[byte]map[int]api.Errno{
		0: {1: 110, 2: 110, 26: 110, 27: 110, 283: 110, 284: 110, 301: 110, 302: 110},
		1: {1: 110, 2: 0, 26: 0, 27: 0, 283: 0, 284: 0, 301: 0, 302: 110},
		2: {1: 110, 2: 0, 26: 0, 27: 0, 283: 0, 284: 0, 301: 0, 302: 110},
		3: {1: 3, 2: 3, 26: 3, 27: 0, 283: 0, 284: 110, 301: 110, 302: 110},
		4: {1: 110, 2: 110, 26: 110, 27: 110, 283: 110, 284: 110, 301: 110, 302: 110},
	}
	for first, row := range errors {
		for many, want := range row {
			b := append([]byte{first, 0}, make([]byte, 302)...)[:many]
			if p, e := packet.Parse(b); e != want || e == api.OK && p.Kind != int(first) || e != api.OK && !equal(p, api.Packet{}) {
				t.Errorf("%d bytes, the first %d: %+v, error %d, not %d", many, first, p, e, want)
			}
		}
	}
}

// P11.1: the bytes of packets, cut at each place, and with bytes behind them.
func TestParseOfCutBytes(t *testing.T) {
	for _, k := range ordinary() {
		b := k.bytes()
		for cut := range b {
			isReadAsSaid(t, b[:cut])
			isReadAsSaid(t, b[cut:])
			if k.p.Kind == api.PkRecord && cut < 27 {
				isNotParsed(t, b[:cut], api.ErrShort)
			}
		}
		for more := range 30 {
			isReadAsSaid(t, append(k.bytes(), text(more)...))
		}
	}
}

// P11.1: each byte of a head as each that there is. Behind the role none is refused, since all numbers in so many bytes may be.
func TestParseOfEachByteOfAHead(t *testing.T) {
	for _, k := range ordinary() {
		if k.p.Kind != api.PkRecord {
			continue
		}
		for at := range 11 {
			for digit := range 256 {
				b := k.bytes()
				b[at] = byte(digit)
				isReadAsSaid(t, b)
				if _, e := packet.Parse(b); at == 1 && digit > 1 && e != api.ErrPacket || at > 1 && e != api.OK {
					t.Errorf("%x: error %d", b, e)
				}
			}
		}
	}
}

// P11.1: each bit of packets turned.
func TestParseOfTurnedBits(t *testing.T) {
	for _, k := range ordinary() {
		b := k.bytes()
		for bit := range 8 * len(b) {
			isReadAsSaid(t, sample.Turned(b, bit))
		}
	}
}

// P11.1: where a record is too short and its role is none, the first is told; one that is too long or of no role is no packet.
func TestParseTellsErrorsInOrder(t *testing.T) {
	for _, role := range []byte{2, 3, 128, 255} {
		for many := 2; many < 310; many++ {
			b := append([]byte{3, role}, text(310)...)[:many]
			if many < 27 {
				isNotParsed(t, b, api.ErrShort)
			} else {
				isNotParsed(t, b, api.ErrPacket)
			}
		}
	}
}

// P11.1: bytes that are handed in stay as they were, with the room behind them, and the body is the caller's own.
func TestParseLeavesWhatItIsGiven(t *testing.T) {
	l := [][]byte{nil, {1}, {3}, {4, 4}, append([]byte{3, 2}, text(40)...), append([]byte{1}, text(301)...)}
	for _, k := range ordinary() {
		l = append(l, k.bytes())
	}
	for _, b := range l {
		room := sample.Roomy(b)
		kept := sample.Whole(room)
		p, e := packet.Parse(room)
		again, _ := packet.Parse(room)
		want := bytes.Clone(p.Body)
		sample.Spoil(p.Body)
		if !bytes.Equal(sample.Whole(room), kept) {
			t.Errorf("%x: it, or what is behind it, is changed", b)
		}
		if !bytes.Equal(again.Body, want) {
			t.Errorf("%x: a second answer is changed with the first", b)
		}
		sample.Spoil(room)
		if later, f := packet.Parse(b); f != e || !equal(later, again) || !bytes.Equal(again.Body, want) {
			t.Errorf("%x: another answer without room, or one that is changed with it", b)
		}
	}
}

// P11.3: whatever is parsed is printed as the bytes that it was.
func TestWhatIsParsedIsPrinted(t *testing.T) {
	parsed := 0
	for seed := range 20000 {
		b := sample.Drawn(uint64(seed), seed%311)
		if len(b) > 1 {
			b[0], b[1] = b[0]%5, b[1]%3
		}
		p, e := packet.Parse(b)
		if e != api.OK {
			continue
		}
		parsed++
		isPrinted(t, p, b)
	}
	if parsed < 5000 {
		t.Errorf("only %d of the rows are packets", parsed)
	}
}
