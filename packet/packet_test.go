package packet_test

import (
	"bytes"
	"slices"
	"testing"

	"sheave/api"
	"sheave/packet"
	"sheave/sample"
)

// P11.1, P11.2: the chapter's examples.
func TestExamples(t *testing.T) {
	p := record(1, 2, 3, 4, make([]byte, 16))
	isPrinted(t, p, append(sample.Hex("0301020003000000000004"), make([]byte, 16)...))
	hasOpenParts(t, p, sample.Hex("0301020003000000000004"), api.Nonce(sample.Hex("020003000000000000000004")))
	isNotParsed(t, nil, api.ErrShort)
	isNotParsed(t, []byte{}, api.ErrShort)
	isNotParsed(t, []byte{1}, api.ErrPacket)
	isNotParsed(t, []byte{3, 0}, api.ErrShort)
	isNotParsed(t, append([]byte{4}, text(40)...), api.ErrPacket)
}

// P11.1, P11.2: packets of each kind, with their bytes written out.
func TestOrdinary(t *testing.T) {
	for _, k := range ordinary() {
		isPrinted(t, k.p, k.bytes())
		isParsed(t, k.bytes(), k.p)
		var head []byte
		if k.p.Kind == api.PkRecord {
			head = sample.Hex(k.head)
		}
		hasOpenParts(t, k.p, head, api.Nonce(sample.Hex(k.nonce)))
		if b := bytesOf(k.p); !may(k.p) || !bytes.Equal(b, k.bytes()) {
			t.Errorf("%v: the test itself reckons %x", told(k.p), b)
		}
	}
}

// P11.1, P11.2: kinds that are none, with the fields of each kind that there is, or with none.
func TestKinds(t *testing.T) {
	for _, kind := range kinds {
		isAsSaid(t, api.Packet{Kind: kind})
		for _, k := range ordinary() {
			p := k.p
			p.Kind = kind
			isAsSaid(t, p)
		}
	}
}

// P11.1, P11.2: each number of a record, at its edges and beyond, one at a time.
func TestNumbersOfRecords(t *testing.T) {
	for _, k := range ordinary() {
		if k.p.Kind != api.PkRecord {
			continue
		}
		for _, n := range slices.Concat(roles, pathIDs, epochs, counters) {
			p := k.p
			p.Role = n
			isAsSaid(t, p)
			p = k.p
			p.Path = n
			isAsSaid(t, p)
			p = k.p
			p.Epoch = n
			isAsSaid(t, p)
			p = k.p
			p.Counter = n
			isAsSaid(t, p)
		}
	}
}

// P11.1, P11.2: the edges of a record's numbers, written out.
func TestEdgesOfRecords(t *testing.T) {
	body := text(20)
	for _, p := range []api.Packet{
		record(-1, 2, 3, 4, body), record(2, 2, 3, 4, body), record(1, -1, 3, 4, body), record(1, 256, 3, 4, body),
		record(1, 2, -1, 4, body), record(1, 2, 65536, 4, body), record(1, 2, 3, -1, body), record(1, 2, 3, 1<<48, body),
		record(1, 2, 3, 4, nil), record(1, 2, 3, 4, text(15)), record(1, 2, 3, 4, text(273)),
	} {
		isWrong(t, p)
	}
	for _, k := range []known{
		{record(0, 2, 3, 4, body), "0300020003000000000004", ""}, {record(1, 2, 3, 4, body), "0301020003000000000004", ""},
		{record(1, 0, 3, 4, body), "0301000003000000000004", ""}, {record(1, 255, 3, 4, body), "0301ff0003000000000004", ""},
		{record(1, 2, 0, 4, body), "0301020000000000000004", ""}, {record(1, 2, 65535, 4, body), "030102ffff000000000004", ""},
		{record(1, 2, 3, 0, body), "0301020003000000000000", ""}, {record(1, 2, 3, 1<<48-1, body), "0301020003ffffffffffff", ""},
		{record(1, 2, 3, 4, text(16)), "0301020003000000000004", ""}, {record(1, 2, 3, 4, text(272)), "0301020003000000000004", ""},
	} {
		isPrinted(t, k.p, k.bytes())
		isParsed(t, k.bytes(), k.p)
		hasOpenParts(t, k.p, sample.Hex(k.head), nonceOf(k.p))
	}
}

// P11.1, P11.2: 0 to 320 bytes of body, and more, in each kind, of noughts, of ones and of others.
func TestBodies(t *testing.T) {
	for many := range 320 {
		for _, body := range sample.Kinds(many) {
			for _, p := range []api.Packet{hello(body), reply(body), record(0, 0, 0, 0, body), record(1, 200, 300, 1<<33, body)} {
				isAsSaid(t, p)
			}
		}
	}
	for _, many := range []int{256 + 16, 256 + 17, 512 + 1, 1<<16 + 1, 1<<16 + 20, 1<<16 + 300, 1 << 20} {
		body := text(many)
		for _, p := range []api.Packet{hello(body), reply(body), record(1, 2, 3, 4, body)} {
			isAsSaid(t, p)
		}
	}
}

// P11.1, P11.2: of a hello and a reply, one field at a time that is not 0, and all of them.
func TestFieldsThatAreToBeNought(t *testing.T) {
	for _, n := range slices.Concat(roles, pathIDs, epochs, counters) {
		if n == 0 {
			continue
		}
		for _, many := range []int{1, 16, 272, 300} {
			for kind := 1; kind <= 2; kind++ {
				body := text(many)
				isWrong(t, api.Packet{Kind: kind, Role: n, Body: body})
				isWrong(t, api.Packet{Kind: kind, Path: n, Body: body})
				isWrong(t, api.Packet{Kind: kind, Epoch: n, Body: body})
				isWrong(t, api.Packet{Kind: kind, Counter: n, Body: body})
				isWrong(t, api.Packet{Kind: kind, Role: n, Path: -n, Body: body})
				isWrong(t, api.Packet{Kind: kind, Role: n, Path: n, Epoch: n, Counter: n, Body: body})
			}
		}
	}
}

// P11.1, P11.2: the edges of all fields, each with each.
func TestEachWithEach(t *testing.T) {
	bodies := make([][]byte, len(sizes))
	for i, many := range sizes {
		bodies[i] = text(many)
	}
	for _, kind := range []int{0, 1, 2, 3, 4, 259} {
		for _, role := range []int{-1, 0, 1, 2} {
			for _, path := range []int{-1, 0, 255, 256} {
				for _, epoch := range []int{-1, 0, 65535, 65536} {
					for _, counter := range []int{-1, 0, lastCounter, lastCounter + 1} {
						for _, body := range bodies {
							isAsSaid(t, api.Packet{Kind: kind, Role: role, Path: path, Epoch: epoch, Counter: counter, Body: body})
						}
					}
				}
			}
		}
	}
}

// P11.2: nothing of a record's body is in its head or its nonce, and its role is not in the nonce.
func TestOpenPartsGoByNumbersAlone(t *testing.T) {
	for many := 16; many <= 272; many++ {
		for _, body := range sample.Kinds(many) {
			hasOpenParts(t, record(1, 9, 258, 77, body), sample.Hex("030109010200000000004d"),
				api.Nonce(sample.Hex("09010200000000000000004d")))
			hasOpenParts(t, record(0, 9, 258, 77, body), sample.Hex("030009010200000000004d"),
				api.Nonce(sample.Hex("09010200000000000000004d")))
		}
	}
}

// records are those of each path, epoch and counter that the edges name, and that may be.
func records() []api.Packet {
	var l []api.Packet
	for _, path := range pathIDs {
		for _, epoch := range epochs {
			for _, counter := range counters {
				if p := record(len(l)%2, path, epoch, counter, text(16+len(l)%257)); may(p) {
					l = append(l, p)
				}
			}
		}
	}
	return l
}

// P11.3: records of other paths, epochs or counters have other nonces.
func TestNoncesDiffer(t *testing.T) {
	l := records()
	for i := range 256 {
		l = append(l, record(0, i, 0, 0, text(16)), record(0, 0, i*257, 0, text(16)), record(0, 0, 0, i, text(16)))
	}
	for i := range 48 {
		l = append(l, record(0, 0, 0, 1<<i, text(16)), record(0, 1<<(i%8), 1<<(i%16), 1<<i, text(16)))
	}
	seen := map[api.Nonce]api.Use{}
	for _, p := range l {
		n, use := packet.Nonce(p), api.Use{Epoch: p.Epoch, Path: p.Path, Counter: p.Counter}
		if other, ok := seen[n]; ok && other != use {
			t.Errorf("%+v and %+v have the nonce %x", other, use, n)
		}
		seen[n] = use
	}
}

// P11.3: what is printed is parsed as it was, and what is parsed is printed as it was.
func TestPrintAndParse(t *testing.T) {
	l := records()
	for _, k := range ordinary() {
		l = append(l, k.p)
	}
	for many := 1; many <= 300; many++ {
		l = append(l, hello(text(many)), reply(text(many)), hello(make([]byte, many)), reply(bytes.Repeat([]byte{3}, many)))
	}
	for many := 16; many <= 272; many++ {
		l = append(l, record(many%2, many%256, many*240, many<<36, text(many)))
	}
	for _, p := range l {
		b, e := packet.Print(p)
		if e != api.OK {
			t.Fatalf("%v: error %d", told(p), e)
		}
		isParsed(t, b, p)
		q, e := packet.Parse(b)
		if e != api.OK {
			t.Fatalf("%v: error %d", told(p), e)
		}
		isPrinted(t, q, b)
	}
}

// P11.1, P11.2: a packet that is handed in stays as it was, with the room behind its body, and what is answered is the caller's
// own: neither hangs on what becomes of the other.
func TestPrintLeavesWhatItIsGiven(t *testing.T) {
	l := []api.Packet{{}, hello(nil), hello(text(301)), record(2, 2, 3, 4, text(20)), record(1, 2, 3, 4, text(15))}
	for _, k := range ordinary() {
		l = append(l, k.p)
	}
	for _, p := range l {
		room := p
		room.Body = sample.Roomy(p.Body)
		kept := sample.Whole(room.Body)
		b, e := packet.Print(room)
		head := packet.Head(room)
		packet.Nonce(room)
		again, _ := packet.Print(room)
		headAgain := packet.Head(room)
		wantBytes, wantHead := bytes.Clone(b), bytes.Clone(head)
		sample.Spoil(b)
		sample.Spoil(head)
		if !bytes.Equal(sample.Whole(room.Body), kept) {
			t.Errorf("%v: its body, or what is behind it, is changed", told(p))
		}
		if !bytes.Equal(again, wantBytes) || !bytes.Equal(headAgain, wantHead) {
			t.Errorf("%v: a second answer is changed with the first", told(p))
		}
		sample.Spoil(room.Body)
		if later, f := packet.Print(p); f != e || !bytes.Equal(later, wantBytes) || !bytes.Equal(again, wantBytes) {
			t.Errorf("%v: another answer without room, or one that is changed with it", told(p))
		}
	}
}

// The same call answers the same, whatever was asked ahead of it.
func TestNothingIsKept(t *testing.T) {
	l := ordinary()
	for _, k := range l {
		for _, other := range l {
			packet.Print(other.p)
			packet.Parse(other.bytes())
			packet.Head(other.p)
			packet.Nonce(other.p)
			isAsSaid(t, k.p)
			isParsed(t, k.bytes(), k.p)
		}
	}
}

func BenchmarkPrint(b *testing.B) {
	p := record(1, 2, 3, 4, text(272))
	for b.Loop() {
		packet.Print(p)
	}
}

func BenchmarkParse(b *testing.B) {
	l := bytesOf(record(1, 2, 3, 4, text(272)))
	for b.Loop() {
		packet.Parse(l)
	}
}
