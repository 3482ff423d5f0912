package conn_test

import (
	"bytes"
	"fmt"
	"slices"
	"strings"
	"testing"

	"sheave/api"
	"sheave/ladder"
	"sheave/packet"
	"sheave/sample"
	"sheave/shake"
)

// noPackets are bytes that are no packet, each with the error that tells so.
func noPackets() map[string]api.Errno {
	return map[string]api.Errno{
		"":                                  api.ErrShort,
		"\x00":                              api.ErrPacket,
		"\x01":                              api.ErrPacket,
		"\x02":                              api.ErrPacket,
		"\x04\x00":                          api.ErrPacket,
		"\xff" + string(stream(96)):         api.ErrPacket,
		"\x01" + string(stream(301)):        api.ErrPacket,
		"\x02" + string(stream(301)):        api.ErrPacket,
		"\x03":                              api.ErrShort,
		"\x03" + string(make([]byte, 25)):   api.ErrShort,
		"\x03\x02" + string(stream(30)):     api.ErrPacket,
		"\x03\x01" + string(stream(282)):    api.ErrPacket,
		"\x03\x00" + string(stream(100000)): api.ErrPacket,
	}
}

// P22.4: bytes that are no packet, in each state: the error of the layer below, and nothing is changed.
func TestNoPacket(t *testing.T) {
	t.Parallel()
	for role := range 2 {
		l := []*hand{ahead(t, role), facing(t, role)}
		if role == 0 {
			l = append(l, ahead(t, 0).greets())
		}
		for _, h := range l {
			for b, e := range noPackets() {
				h.refuses(e, []byte(b))
			}
			h.delivers(api.ErrShort, nil)
		}
	}
}

// hellos are datagrams that say they are a hello, but are none that the conn may take, with the errors.
func hellos(t *testing.T) map[string]api.Errno {
	t.Helper()
	a, b := configs(api.Fastest)
	of := func(secret, draw, other api.Key) string {
		m, e := shake.Begin(secret, draw, other).First(nil)
		if e != api.OK {
			t.Fatalf("First: error %d", e)
		}
		return "\x01" + string(m)
	}
	right := []byte(of(a.Secret, a.Draw, a.Public))
	l := map[string]api.Errno{
		"\x01" + string(make([]byte, 95)):                api.ErrShort,
		string(right[:96]):                               api.ErrShort,
		"\x01" + string(make([]byte, 225)):               api.ErrLong,
		"\x01" + string(make([]byte, 300)):               api.ErrLong,
		"\x01" + string(make([]byte, 96)):                api.ErrZero,
		string(append(right[:97:97], 1)):                 api.ErrForged,
		of(a.Secret, a.Draw, api.Key{9}):                 api.ErrForged,
		of(b.Secret, a.Draw, ladder.Public(api.Key{77})): api.ErrForged,
	}
	for bit := 8; bit < 8*97; bit += 31 {
		if bit/8 != 32 { // the highest bit of a point is not looked at
			l[string(sample.Turned(right, bit))] = api.ErrForged
		}
	}
	return l
}

// P22.4: a hello whose handshake fails is refused, and nothing is changed: the right one may still come.
func TestHelloRefused(t *testing.T) {
	h := ahead(t, 1).greets()
	for b, e := range hellos(t) {
		h.refuses(e, []byte(b))
	}
	h.delivers(api.OK, h.hello).state(api.StOpen)
}

// P22.4: a hello may have a text with it, which is passed over; and so may a reply.
func TestTextsOfTheHandshake(t *testing.T) {
	for _, many := range []int{0, 1, 128} {
		h := ahead(t, 1)
		m, e := h.s.First(stream(many))
		h.is("First", e, api.OK)
		h.hello = append([]byte{1}, m...)
		h.delivers(api.OK, h.hello).reply = h.one()
		_, e = h.s.TakeSecond(h.reply[1:])
		h.is("TakeSecond", e, api.OK)
		h.knows().feeds(0, 4).reads(9, 0, 4).delivers(api.OK, h.hello).polls(9, "reply", "0.0.0: got 0 in 0, ack 4 of 2052")

		h = ahead(t, 0)
		h.hello = h.one()
		_, e = h.s.TakeFirst(h.hello[1:])
		h.is("TakeFirst", e, api.OK)
		m, e = h.s.Second(stream(many))
		h.is("Second", e, api.OK)
		h.delivers(api.OK, append([]byte{2}, m...)).knows().feeds(0, 4).reads(9, 0, 4).quietBut("0.0.0: got 0 in 0, ack 4 of 2052")
	}
}

func (h *hand) quietBut(want ...string) *hand {
	h.t.Helper()
	return h.polls(64, want...).quiet()
}

// P22.4: behind the hello that was taken no other one is, be it one by which another handshake would go well.
func TestAnotherHello(t *testing.T) {
	a, _ := configs(api.Fastest)
	h := facing(t, 1)
	other, e := shake.Begin(a.Secret, api.Key{55}, a.Public).First(nil)
	h.is("First", e, api.OK)
	long, e := shake.Begin(a.Secret, a.Draw, a.Public).First([]byte("x"))
	h.is("First", e, api.OK)
	h.refuses(api.ErrState, append([]byte{1}, other...), append([]byte{1}, long...), []byte{1, 1}, h.hello[:96], append(slices.Clone(h.hello), 0))
	for b := range hellos(t) {
		h.refuses(api.ErrState, []byte(b))
	}
	for bit := 8; bit < 8*97; bit += 13 {
		h.delivers(api.ErrState, sample.Turned(h.hello, bit))
	}
	h.quiet().feeds(0, 3).reads(9, 0, 3).delivers(api.OK, h.hello).polls(9, "reply", "0.0.0: got 0 in 0, ack 3 of 2051")
}

// P22.4: who begins takes no hello, and the other no reply, in any state; nor is an end's own datagram anything to it.
func TestNotForIt(t *testing.T) {
	hello, reply := ahead(t, 1).greets().hello, facing(t, 1).reply
	h := ahead(t, 0).refuses(api.ErrState, hello, reply, []byte{1, 0}, []byte{2, 0})
	h.greets()
	h.refuses(api.ErrState, hello, h.hello, []byte{1, 0}).delivers(api.OK, h.reply).knows()
	h.refuses(api.ErrState, hello, h.hello, []byte{1, 0})

	ahead(t, 1).refuses(api.ErrState, reply, []byte{2, 0})
	h = facing(t, 1)
	h.refuses(api.ErrState, reply, h.reply, []byte{2, 0})
	for role := range 2 {
		h := facing(t, role).writes(9)
		l, e := h.c.Poll(1)
		h.is("Poll", e, api.OK)
		h.refuses(api.ErrPacket, l...)
	}
}

// P22.4: a reply that fails is refused, and nothing is changed: the right one may still come. A second one is none.
func TestReplyRefused(t *testing.T) {
	h := ahead(t, 0).greets().writes(5)
	noughts := func(many int) []byte { return append([]byte{2}, make([]byte, many)...) }
	h.refuses(api.ErrShort, noughts(1), noughts(47), h.reply[:48])
	h.refuses(api.ErrLong, noughts(177), noughts(300))
	h.refuses(api.ErrZero, noughts(48), noughts(176))
	h.refuses(api.ErrForged, append(slices.Clone(h.reply), 0))
	for bit := 8; bit < 8*49; bit += 17 {
		if bit/8 != 32 {
			h.refuses(api.ErrForged, sample.Turned(h.reply, bit))
		}
	}
	h.state(api.StWaits).ticks(200).polls(9, "hello").delivers(api.OK, h.reply).knows().state(api.StOpen)
	h.refuses(api.ErrState, h.reply, noughts(48), noughts(1)).polls(9, "0.0.0: data 0-5").refuses(api.ErrState, h.reply)
}

// P22.4: there are no records ahead of StOpen.
func TestRecordAhead(t *testing.T) {
	for role := range 2 {
		r := facing(t, role).seals(0, data(0, stream(4)))
		h := ahead(t, role).refuses(api.ErrState, r)
		if role == 0 {
			h.greets().refuses(api.ErrState, r)
		}
		h = ahead(t, role).meets().delivers(api.OK, r).reads(9, 0, 4)
	}
}

// P22.4: what the guard refuses: each error of it, and nothing is changed.
func TestRecordRefused(t *testing.T) {
	for role := range 2 {
		h := facing(t, role)
		h.is("Advance", h.g.Advance(), api.OK)
		h.gives(3, data(2, stream(6)[2:])).is("Skip", h.g.Skip(3, 2000), api.OK)
		h.gives(3)
		r := h.seals(7, data(0, stream(9)))
		for bit := 8 * (len(r) - 16); bit < 8*len(r); bit++ {
			h.delivers(api.ErrForged, sample.Turned(r, bit))
		}
		h.refuses(api.ErrForged, sample.Turned(r, 8*len(r)-1), sample.Turned(r, 8*12), sample.Turned(r, 16), sample.Turned(r, 87))
		h.refuses(api.ErrForged, r[:len(r)-1], append(slices.Clone(r), 0), r[:27])
		h.refuses(api.ErrShort, r[:26]).refuses(api.ErrPacket, sample.Turned(r, 8))
		h.refuses(api.ErrForged, sample.Turned(r, 8*4)) // it says that it is of the epoch ahead
		h.refuses(api.ErrEpoch, sample.Turned(r, 8*4+1), sample.Turned(r, 8*3))
		h.refuses(api.ErrOld, moved(t, r, 3, 976), moved(t, r, 3, 2000)).refuses(api.ErrForged, moved(t, r, 3, 977))
		h.delivers(api.OK, r).refuses(api.ErrOld, r)
	}
}

// moved is a record that says that it is of another path and counter.
func moved(t *testing.T, b []byte, path, counter int) []byte {
	t.Helper()
	p, e := packet.Parse(b)
	if e != api.OK {
		t.Fatalf("Parse: error %d", e)
	}
	p.Path, p.Counter = path, counter
	b, e = packet.Print(p)
	if e != api.OK {
		t.Fatalf("Print: error %d", e)
	}
	return b
}

// P22.4: a record whose text is no row of frames: the error of the layer below; its number is marked all the same, and nothing else.
func TestNoFrames(t *testing.T) {
	t.Parallel()
	for role := range 2 {
		for text, want := range map[string]api.Errno{
			"\x00":                         api.ErrFrame,
			"\x08":                         api.ErrFrame,
			"\x01\x05\x00":                 api.ErrFrame,
			"\x01\x05\x02a":                api.ErrShort,
			"\x06\x40\x07":                 api.ErrCode,
			"\x06":                         api.ErrShort,
			"\x01\x00\x40\x81":             api.ErrLong,
			"\x06\x07\x08":                 api.ErrFrame, // the close frame ahead of what is none is not looked at
			"\x01\x00\x01x\x03\x01":        api.ErrShort,
			strings.Repeat("\x05\x00", 17): api.ErrLong,
			"\x05\x00\xff":                 api.ErrFrame,
		} {
			h := facing(t, role).writes(9)
			before := see(h.c)
			b, e := h.g.Seal(6, []byte(text))
			h.is("Seal", e, api.OK)
			h.delivers(want, b)
			if got := see(h.c); got != before {
				t.Fatalf("%x: %s, not %s", text, got, before)
			}
			h.refuses(api.ErrOld, b).path(6, api.PathNone, 0, 0, 0).polls(9, "0.0.0: data 0-9")
			h.gives(6, update(0)).polls(9, "6.0.0: got 1 in 0 0-1, ack 0 of 2048") // it was marked: 0 is among those that came
		}
		// One of the next epoch has the end go on to it.
		h := facing(t, role)
		h.is("Advance", h.g.Advance(), api.OK)
		b, _ := h.g.Seal(6, []byte{0})
		h.delivers(api.ErrFrame, b).epochs(0, 1).path(6, api.PathNone, 0, 0, 0)
	}
}

// P22.4: a record that comes twice is taken once; in which order records come makes no difference to what is read.
func TestTwiceAndTurnedRound(t *testing.T) {
	t.Parallel()
	for role := range 2 {
		for _, order := range sample.Orders([]int{0, 1, 2, 3}) {
			h := facing(t, role)
			var l [][]byte
			for i := range 4 {
				l = append(l, h.seals(i%2, data(10*i, stream(40)[10*i:10*i+10])))
			}
			for _, i := range order {
				h.delivers(api.OK, l[i]).refuses(api.ErrOld, l[i])
			}
			h.refuses(api.ErrOld, l...).reads(99, 0, 40)
		}
	}
}

// P22.4: a path that is not known yet is live as soon as a record comes on it, be there a frame in it or not.
func TestPathsBegin(t *testing.T) {
	for role := range 2 {
		h := facing(t, role).writes(1)
		for _, id := range []int{255, 1, 17} {
			h.path(id, api.PathNone, 0, 0, 0).gives(id).path(id, api.PathLive, 100, 4, 0)
		}
		h.gives(2, response(7)).path(2, api.PathLive, 100, 4, 0).gives(2).polls(9, "0.0.0: data 0-1")
		for id := range 12 {
			h.gives(30+id).path(30+id, []int{api.PathLive, api.PathNone}[id/11], []int{100, 0}[id/11], []int{4, 0}[id/11], 0)
		}
		// The seventeenth can't be begun; its frames are taken all the same, and when there is room it is.
		h.gives(41, data(0, stream(3)), ack(1, 2048)).left(0).reads(9, 0, 3).path(41, api.PathNone, 0, 0, 0).removes(1)
		h.gives(41).path(41, api.PathLive, 100, 4, 0)
		// One that has gone, or is new, stays as it is.
		h.gives(1).path(1, api.PathGone, 100, 0, 0).removes(2).adds(90).gives(90).path(90, api.PathNew, 100, 0, 0)
		h.gives(90, response(91)).path(90, api.PathNew, 100, 0, 0)
	}
	h := facing(t, 0).adds(9)
	for range 4 {
		h.polls(9, fmt.Sprintf("9.0.%d: challenge 9", h.clone().countOf(9))).ticks(1600)
	}
	h.quiet().path(9, api.PathFailed, 100, 0, 0).gives(9, response(9)).path(9, api.PathFailed, 100, 0, 0)
}

// countOf is the counter of the next record that the conn sends on a path, as the hand can tell it.
func (h *hand) countOf(path int) int {
	top, _ := h.g.Got(path)
	return top + 1
}

// P22.4: each frame alone.
func TestFrameData(t *testing.T) {
	for role := range 2 {
		h := facing(t, role).gives(5, data(2, stream(6)[2:])).reads(9, 0, 0).quietBut("5.0.0: got 0 in 0, ack 0 of 2048 2-6")
		h.gives(0, data(0, stream(4))).reads(9, 0, 6).polls(9, "0.0.0: got 0 in 0, ack 6 of 2054", "5.0.1: got 0 in 0, ack 6 of 2054")
		// What came already, and what there is no room for, is answered, too.
		h.gives(0, data(1, []byte("other"))).reads(9, 6, 0).quietBut("0.0.1: got 1 in 0 0-1, ack 6 of 2054")
		h.gives(0, data(2054, []byte("beyond"))).quietBut("0.0.2: got 2 in 0 0-2, ack 6 of 2054")
		h.gives(0, data(2050, []byte("beyond"))).quietBut("0.0.3: got 3 in 0 0-3, ack 6 of 2054 2050-2054")
		h.gives(0, data(1<<62-1, []byte("x"))).quietBut("0.0.4: got 4 in 0 0-4, ack 6 of 2054 2050-2054")
		h.gives(0, data(1<<62-1, make([]byte, 128))).quietBut("0.0.5: got 5 in 0 0-5, ack 6 of 2054 2050-2054")
	}
}

// P22.4: ack: what arrived, and how far may be sent; nothing is due for it.
func TestFrameAck(t *testing.T) {
	for role := range 2 {
		h := facing(t, role).writes(300)
		h.polls(9, "0.0.0: data 0-128", "0.0.1: data 128-256", "0.0.2: data 256-300").gives(3, ack(0, 0, 1, 2, 128, 256)).left(300).quiet()
		h.ticks(350).polls(9, "3.0.0: data 0-1", "3.0.1: data 2-128", "3.0.2: data 256-300")
		h.gives(0, ack(2, 0)).left(298).gives(0, ack(1, 0)).left(298).gives(0, ack(300, 0)).left(0).gives(0, ack(1<<62-1, 1<<62-1)).left(0)
		// What was not sent can't have arrived; a limit is never taken back.
		h.writes(10).gives(0, ack(310, 5), ack(0, 0, 1, 1<<62-1)).left(10).quietBut("3.0.3: data 300-310")
	}
	h := blocked(t, 0).ticks(100)
	n := h.g.Counter(0) - 1
	h.polls(9, fmt.Sprintf("0.0.16: update 0, got %d in 0 0-%d, ack 0 of 2048", n, n)).gives(0, ack(0, 2051)).polls(9, "0.0.17: data 2048-2051")
	h.gives(0, ack(0, 2049)).quiet().gives(0, ack(0, 2052)).polls(9, "0.0.18: data 2051-2052").quiet()
}

// P22.4: challenge: a response of its token, on the path that it came on, if there are not 4 yet.
func TestFrameChallenge(t *testing.T) {
	for role := range 2 {
		h := facing(t, role).gives(5, challenge(200)).quietBut("5.0.0: response 200, got 0 in 0, ack 0 of 2048")
		for n := range 4 {
			h.gives(0, challenge(10+n))
		}
		h.gives(5, challenge(20), api.Frame{Kind: api.FrChallenge}).gives(0, challenge(14), challenge(15)).gives(0, challenge(10))
		h.quietBut("0.0.0: response 10, response 11, response 12, response 13, got 5 in 0 0-5, ack 0 of 2048",
			"5.0.1: response 20, response 0000000000000000, got 1 in 0 0-1, ack 0 of 2048")
	}
}

// P22.4: response: with the token that the path is asked with, on that path, it is live.
func TestFrameResponse(t *testing.T) {
	for role := range 2 {
		h := facing(t, role).adds(5).adds(6)
		h.gives(5, response(6)).gives(6, response(5)).gives(0, response(5), response(6)).gives(5, api.Frame{Kind: api.FrResponse})
		h.path(5, api.PathNew, 100, 0, 0).path(6, api.PathNew, 100, 0, 0).gives(7, response(5)).path(7, api.PathLive, 100, 4, 0)
		h.gives(5, response(5)).path(5, api.PathLive, 100, 4, 0).path(6, api.PathNew, 100, 0, 0)
		h.polls(9, "6.0.0: challenge 6").gives(6, response(6)).path(6, api.PathLive, 100, 4, 0)
		// What is under way on a live path stays so.
		h.removes(0).removes(7).removes(6).writes(20).polls(9, "5.0.0: data 0-20").gives(5, response(5)).path(5, api.PathLive, 100, 4, 1).quiet()
	}
}

// P22.4: update: something is due on the path.
func TestFrameUpdate(t *testing.T) {
	for role := range 2 {
		h := facing(t, role).gives(5, update(0)).quietBut("5.0.0: got 0 in 0, ack 0 of 2048").gives(0, update(65535)).epochs(0, 0)
		h.quietBut("0.0.0: got 0 in 0, ack 0 of 2048")
		h.is("Advance", h.g.Advance(), api.OK)
		h.gives(0, update(1)).epochs(0, 1).quietBut("0.0.1: got 0 in 1, ack 0 of 2048")
	}
}

// P22.4: close: it is closed, and what is behind it in the record is not looked at; what is ahead of it is.
func TestFrameClose(t *testing.T) {
	for role := range 2 {
		h := facing(t, role).adds(5).writes(10).polls(9, "5.0.0: challenge 5", "0.0.0: data 0-10").updates()
		h.gives(5, ack(3, 0), closing(9), ack(10, 0), response(5), got(0, 1), closing(8), data(0, stream(3)))
		h.state(api.StClosed).left(7).path(5, api.PathNew, 100, 0, 0)
		if h.c.Why() != 9 {
			t.Fatalf("Why: %d", h.c.Why())
		}
		h = facing(t, role).adds(5).gives(5, response(5), closing(0)).state(api.StClosed).path(5, api.PathLive, 100, 4, 0)
		h = facing(t, role).gives(77, closing(1)).state(api.StClosed).path(77, api.PathLive, 100, 4, 0)
	}
}

// P22.4: got, of the end's own epoch: what came, how long it took, what is lost; on the path that the frame came on.
func TestFrameGot(t *testing.T) {
	for role := range 2 {
		h := facing(t, role).gives(3).writes(128).polls(1, "0.0.0: data 0-128").ticks(10).writes(128).polls(1, "0.0.1: data 128-256")
		h.ticks(10).writes(128).polls(1, "0.0.2: data 256-384").ticks(10).writes(128).polls(1, "0.0.3: data 384-512")
		h.gives(3, got(3, 0, 0, 3)).path(0, api.PathLive, 100, 4, 4).path(3, api.PathLive, 100, 4, 0)
		h.clone().gives(0, got(0, 0)).path(0, api.PathLive, 91, 5, 3).ticks(1).quiet()
		h.clone().gives(0, got(2, 0)).path(0, api.PathLive, 88, 5, 3).quiet()
		h.clone().gives(0, got(3, 0)).path(0, api.PathLive, 87, 2, 2).polls(9, "3.0.0: data 0-128")
		h.clone().gives(0, got(3, 0, 0, 1)).path(0, api.PathLive, 87, 6, 2).quiet()
		h.clone().gives(0, got(3, 0, 1, 3)).path(0, api.PathLive, 87, 3, 0).polls(9, "0.0.4: data 0-128").quiet()
		h.clone().gives(0, got(4, 0, 1, 3)).path(0, api.PathLive, 100, 3, 1).polls(9, "0.0.4: data 0-128").quiet()
		h.clone().gives(0, got(99, 0)).path(0, api.PathLive, 100, 2, 0)
		h.gives(0, got(3, 1, 0, 3), got(3, 65535)).path(0, api.PathLive, 100, 4, 4)
		// Of a path that is not open it tells nothing, but that the epoch came.
		h.removes(3).updates().gives(3, got(0, 0), got(3, 2)).is("Update", h.c.Update(), api.ErrState)
		h.gives(3, got(3, 1, 0, 3)).path(3, api.PathGone, 100, 0, 0).updates()
	}
}

// P22.4: several frames are taken one behind the other.
func TestFramesTogether(t *testing.T) {
	h := facing(t, 0).adds(5).writes(400).polls(3, "5.0.0: challenge 5", "0.0.0: data 0-128", "0.0.1: data 128-256", "0.0.2: data 256-384")
	h.ticks(20).gives(0, challenge(1), got(1, 0, 0, 1), data(0, stream(2)), ack(256, 2048), update(0), data(2, stream(5)[2:]), challenge(2))
	h.left(144).path(0, api.PathLive, 90, 6, 1).polls(9, "0.0.3: response 1, response 2, got 0 in 0, ack 5 of 2048", "0.0.4: data 384-400")
	var all []api.Frame
	for n := range 16 {
		all = append(all, update(n))
	}
	h.gives(0, all...).polls(9, "0.0.5: got 1 in 0 0-1, ack 5 of 2048")
}

// P22.4, R7: what is handed in is neither changed nor kept, nor is the room behind it.
func TestHandedIn(t *testing.T) {
	for role := range 2 {
		h := ahead(t, role)
		given := func(b []byte, call func(b []byte)) {
			t.Helper()
			b = sample.Roomy(b)
			whole := sample.Whole(b)
			call(b)
			if !bytes.Equal(sample.Whole(b), whole) {
				t.Fatalf("%x, handed in, is %x", whole, sample.Whole(b))
			}
			sample.Spoil(b)
		}
		deliver := func(b []byte) { h.delivers(api.OK, b) }
		write := func(b []byte) {
			n, e := h.c.Write(b)
			h.is("Write", e, api.OK)
			h.written += n
		}
		given(stream(100), write)
		h.greets()
		if role == 0 {
			given(h.reply, deliver)
		} else {
			given(h.hello, deliver)
			h.reply = h.one()
			if _, e := h.s.TakeSecond(h.reply[1:]); e != api.OK {
				t.Fatalf("TakeSecond: error %d", e)
			}
			given(h.hello, deliver)
			h.polls(0, "reply")
		}
		h.knows()
		given(stream(230)[100:], write)
		given(h.seals(0, data(0, stream(10)), challenge(3)), deliver)
		given(h.seals(0, data(12, stream(20)[12:])), deliver)
		given(h.seals(0, data(10, stream(13)[10:])), deliver)
		h.polls(9, "0.0.0: response 3, got 2 in 0 0-2, ack 20 of 2048", "0.0.1: data 0-128", "0.0.2: data 128-230")
		b, _ := h.c.Read(10)
		sample.Spoil(b)
		h.reads(99, 10, 10).ticks(350).polls(9, "0.0.3: got 2 in 0 0-2, ack 20 of 2068", "0.0.4: data 0-128", "0.0.5: data 128-230")
	}
}
