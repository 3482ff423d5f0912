package conn_test

import (
	"bytes"
	"fmt"
	"slices"
	"strings"
	"testing"

	"sheave/api"
	"sheave/conn"
	"sheave/frames"
	"sheave/guard"
	"sheave/ladder"
	"sheave/packet"
	"sheave/sample"
	"sheave/shake"
)

var rows, edges = sample.Rows, sample.Edges

// configs are those of two ends that know each other.
func configs(policy int) (a, b api.Config) {
	a = api.Config{Secret: api.Key{1}, Public: ladder.Public(api.Key{2}), Draw: api.Key{3}, Policy: policy}
	b = api.Config{Role: 1, Secret: api.Key{2}, Draw: api.Key{4}, Policy: policy}
	return a, b
}

// token is one by which tests know it again.
func token(n int) [8]byte {
	var k [8]byte
	for i := range k {
		k[i] = byte(n + i)
	}
	return k
}

// The frames, by the fields that their rows name.
func data(at int, b []byte) api.Frame { return api.Frame{Kind: api.FrData, At: at, Bytes: b} }

func ack(at, limit int, ends ...int) api.Frame {
	return api.Frame{Kind: api.FrAck, At: at, Limit: limit, Ranges: rows(ends...)}
}

func challenge(n int) api.Frame { return api.Frame{Kind: api.FrChallenge, Token: token(n)} }

func response(n int) api.Frame { return api.Frame{Kind: api.FrResponse, Token: token(n)} }

func update(epoch int) api.Frame { return api.Frame{Kind: api.FrUpdate, At: epoch} }

func closing(why int) api.Frame { return api.Frame{Kind: api.FrClose, At: why} }

func got(top, epoch int, ends ...int) api.Frame {
	return api.Frame{Kind: api.FrGot, At: top, Limit: epoch, Ranges: rows(ends...)}
}

// stream are the bytes that tests have one end write: so many of the first.
func stream(many int) []byte { return sample.Drawn(22, many) }

// hand is the other end of a conn, by hand: it has the same keys, seals whatever a test asks for, and opens what the conn gives.
type hand struct {
	t            *testing.T
	c            *conn.Conn
	role         int // the conn's
	s            *shake.Shake
	g            *guard.Guard
	hello, reply []byte // the handshake's datagrams
	written      int    // how many bytes of stream the conn took
	handed       int    // how many the hand did
}

// aheadBy is a conn of a config ahead of the handshake.
func aheadBy(t *testing.T, c api.Config) *hand {
	t.Helper()
	a, b := configs(c.Policy)
	h := &hand{t: t, c: conn.New(c), s: shake.Await(b.Secret, b.Draw)}
	if c.Role != 0 {
		h.role = 1
		h.s = shake.Begin(a.Secret, a.Draw, a.Public)
	}
	return h
}

func ahead(t *testing.T, role int) *hand {
	t.Helper()
	a, b := configs(api.Fastest)
	return aheadBy(t, []api.Config{a, b}[role])
}

// greets has the hand send its hello to a conn that awaits one; or take that of a conn that begins.
func (h *hand) greets() *hand {
	h.t.Helper()
	if h.role == 0 {
		h.hello = h.one()
		_, e := h.s.TakeFirst(h.hello[1:])
		h.is("TakeFirst", e, api.OK)
		m, e := h.s.Second(nil)
		h.is("Second", e, api.OK)
		h.reply = append([]byte{2}, m...)
		return h
	}
	m, e := h.s.First(nil)
	h.is("First", e, api.OK)
	h.hello = append([]byte{1}, m...)
	return h
}

// meets is the whole handshake.
func (h *hand) meets() *hand {
	h.t.Helper()
	h.greets()
	if h.role == 0 {
		h.delivers(api.OK, h.reply)
	} else {
		h.delivers(api.OK, h.hello)
		h.reply = h.one()
		_, e := h.s.TakeSecond(h.reply[1:])
		h.is("TakeSecond", e, api.OK)
	}
	return h.knows()
}

// knows is a hand that has the keys that the handshake ended in.
func (h *hand) knows() *hand {
	h.t.Helper()
	k, is := h.s.Keys()
	if !is {
		h.t.Fatal("no keys")
	}
	if h.role == 0 {
		h.g = guard.New(1, k.To, k.From)
	} else {
		h.g = guard.New(0, k.From, k.To)
	}
	return h
}

// facing is a conn of a role behind the handshake.
func facing(t *testing.T, role int) *hand {
	t.Helper()
	return ahead(t, role).meets()
}

func facingBy(t *testing.T, c api.Config) *hand {
	t.Helper()
	return aheadBy(t, c).meets()
}

func (h *hand) clone() *hand {
	x := *h
	x.c, x.s = h.c.Clone(), h.s.Clone()
	if h.g != nil {
		x.g = h.g.Clone()
	}
	return &x
}

func (h *hand) is(call string, got, want api.Errno) {
	h.t.Helper()
	if got != want {
		h.t.Fatalf("%s: error %d, not %d", call, got, want)
	}
}

// one is the only datagram of a Poll in which no data go.
func (h *hand) one() []byte {
	h.t.Helper()
	l, e := h.c.Poll(0)
	if e != api.OK || len(l) != 1 {
		h.t.Fatalf("Poll: %d datagrams, error %d, not one", len(l), e)
	}
	return l[0]
}

// seals is a record of the hand's on a path.
func (h *hand) seals(path int, l ...api.Frame) []byte {
	h.t.Helper()
	text, e := frames.Encode(l)
	h.is("Encode", e, api.OK)
	b, e := h.g.Seal(path, text)
	h.is("Seal", e, api.OK)
	return b
}

// delivers hands datagrams to the conn, each of which must answer the same.
func (h *hand) delivers(want api.Errno, l ...[]byte) *hand {
	h.t.Helper()
	for _, b := range l {
		h.is(fmt.Sprintf("Deliver of %x", b), h.c.Deliver(b), want)
	}
	return h
}

// gives has a record with these frames arrive on a path.
func (h *hand) gives(path int, l ...api.Frame) *hand {
	h.t.Helper()
	return h.delivers(api.OK, h.seals(path, l...))
}

// feeds has so many bytes more of stream arrive on a path, in one record.
func (h *hand) feeds(path, many int) *hand {
	h.t.Helper()
	at := h.handed
	h.handed += many
	return h.gives(path, data(at, stream(h.handed)[at:]))
}

// writes has the conn write so many bytes more of stream.
func (h *hand) writes(many int) *hand {
	h.t.Helper()
	n, e := h.c.Write(stream(h.written + many)[h.written:])
	h.is("Write", e, api.OK)
	if n != many {
		h.t.Fatalf("Write of %d bytes: %d", many, n)
	}
	h.written += many
	return h
}

func (h *hand) ticks(n int) *hand {
	h.t.Helper()
	h.is("Tick", h.c.Tick(n), api.OK)
	return h
}

func (h *hand) adds(path int) *hand {
	h.t.Helper()
	h.is("Add", h.c.Add(path, token(path)), api.OK)
	return h
}

func (h *hand) removes(path int) *hand {
	h.t.Helper()
	h.is("Remove", h.c.Remove(path), api.OK)
	return h
}

func (h *hand) updates() *hand {
	h.t.Helper()
	h.is("Update", h.c.Update(), api.OK)
	return h
}

// reads has the conn read at most so many bytes, of which there must be as many as are told, those of stream from at on.
func (h *hand) reads(most, at, many int) *hand {
	h.t.Helper()
	b, e := h.c.Read(most)
	h.is("Read", e, api.OK)
	if !bytes.Equal(b, stream(at + many)[at:]) {
		h.t.Fatalf("Read(%d): %d bytes, not the %d from %d on", most, len(b), many, at)
	}
	return h
}

// polls holds what a Poll gives to what it must, each datagram as text.
func (h *hand) polls(most int, want ...string) *hand {
	h.t.Helper()
	l, e := h.c.Poll(most)
	h.is("Poll", e, api.OK)
	var have []string
	for _, b := range l {
		have = append(have, h.text(b))
	}
	if !slices.Equal(have, want) {
		h.t.Fatalf("Poll(%d) gives\n\t%s\nnot\n\t%s", most, strings.Join(have, "\n\t"), strings.Join(want, "\n\t"))
	}
	return h
}

// quiet are polls of which nothing comes.
func (h *hand) quiet() *hand {
	h.t.Helper()
	return h.polls(64).polls(64)
}

// path holds what Path tells of a number to what it must.
func (h *hand) path(id, state, rtt, window, under int) *hand {
	h.t.Helper()
	if got, want := h.c.Path(id), (api.Path{ID: id, State: state, RTT: rtt, Window: window, Under: under}); got != want {
		h.t.Fatalf("Path(%d): %+v, not %+v", id, got, want)
	}
	return h
}

func (h *hand) left(want int) *hand {
	h.t.Helper()
	if got := h.c.Left(); got != want {
		h.t.Fatalf("Left: %d, not %d", got, want)
	}
	return h
}

func (h *hand) state(want int) *hand {
	h.t.Helper()
	if got := h.c.State(); got != want {
		h.t.Fatalf("State: %d, not %d", got, want)
	}
	return h
}

func (h *hand) epochs(out, in int) *hand {
	h.t.Helper()
	if x, y := h.c.Epochs(); x != out || y != in {
		h.t.Fatalf("Epochs: %d, %d, not %d, %d", x, y, out, in)
	}
	return h
}

// text is a datagram of the conn's in words: of a record its path, epoch and counter, and its frames.
func (h *hand) text(b []byte) string {
	h.t.Helper()
	p, e := packet.Parse(b)
	h.is("Parse", e, api.OK)
	switch {
	case h.hello != nil && bytes.Equal(b, h.hello):
		return "hello"
	case h.reply != nil && bytes.Equal(b, h.reply):
		return "reply"
	case p.Kind != api.PkRecord:
		return fmt.Sprintf("%x", b)
	case p.Role != h.role:
		h.t.Fatalf("a record of the role %d", p.Role)
	}
	_, _, text, e := h.g.Open(b)
	h.is("Open", e, api.OK)
	l, e := frames.Decode(text)
	h.is("Decode", e, api.OK)
	var told []string
	for _, f := range l {
		told = append(told, h.frame(f))
	}
	return fmt.Sprintf("%d.%d.%d: %s", p.Path, p.Epoch, p.Counter, strings.Join(told, ", "))
}

// frame is a frame in words. Of data their numbers stand there, if they are those of stream.
func (h *hand) frame(f api.Frame) string {
	ranges := ""
	for _, r := range f.Ranges {
		ranges += fmt.Sprintf(" %d-%d", r.From, r.To)
	}
	switch f.Kind {
	case api.FrData:
		to := f.At + len(f.Bytes)
		if to <= h.written && bytes.Equal(f.Bytes, stream(to)[f.At:]) {
			return fmt.Sprintf("data %d-%d", f.At, to)
		}
		return fmt.Sprintf("data %d %x", f.At, f.Bytes)
	case api.FrAck:
		return fmt.Sprintf("ack %d of %d%s", f.At, f.Limit, ranges)
	case api.FrChallenge:
		return fmt.Sprintf("challenge %s", name(f.Token))
	case api.FrResponse:
		return fmt.Sprintf("response %s", name(f.Token))
	case api.FrUpdate:
		return fmt.Sprintf("update %d", f.At)
	case api.FrClose:
		return fmt.Sprintf("close %d", f.At)
	}
	return fmt.Sprintf("got %d in %d%s", f.At, f.Limit, ranges)
}

func name(k [8]byte) string {
	if k == token(int(k[0])) {
		return fmt.Sprint(k[0])
	}
	return fmt.Sprintf("%x", k)
}

// see is what an end tells of itself.
func see(c *conn.Conn) string {
	out, in := c.Epochs()
	s := fmt.Sprintf("state %d, clock %d, why %d, left %d, epochs %d %d", c.State(), c.Clock(), c.Why(), c.Left(), out, in)
	for id := range 256 {
		if p := c.Path(id); p != (api.Path{ID: id}) {
			s += fmt.Sprintf(", %+v", p)
		}
	}
	return s
}

// deep is all that can be seen of an end: what it tells, and what clones of it do from here on.
func deep(c *conn.Conn) string {
	s := see(c)
	for _, then := range []func(x *conn.Conn) api.Errno{
		func(x *conn.Conn) api.Errno { return api.OK },
		func(x *conn.Conn) api.Errno { return x.Tick(120) },
		func(x *conn.Conn) api.Errno { return x.Tick(200) },
		func(x *conn.Conn) api.Errno { return x.Tick(3000) },
		func(x *conn.Conn) api.Errno { return x.Update() },
		func(x *conn.Conn) api.Errno { return x.Remove(0) },
		func(x *conn.Conn) api.Errno { _, e := x.Write(stream(300)); return e },
		func(x *conn.Conn) api.Errno { b, e := x.Read(5000); s += fmt.Sprintf("\n%x", b); return e },
	} {
		x := c.Clone()
		s += fmt.Sprintf("\n%d %s", then(x), see(x))
		for range 2 {
			l, e := x.Poll(64)
			s += fmt.Sprintf("\n%d %x %s", e, l, see(x))
		}
		b, e := x.Close(5)
		s += fmt.Sprintf("\n%d %x %s", e, b, see(x))
	}
	return s
}

// changesNothing makes calls, behind all of which nothing can be seen to have changed.
func (h *hand) changesNothing(call string, calls func()) {
	h.t.Helper()
	want := deep(h.c)
	calls()
	if got := deep(h.c); got != want {
		h.t.Fatalf("%s changes something:\n%s\nahead of it\n%s", call, got, want)
	}
}

// refuses delivers datagrams that must answer an error each, and change nothing.
func (h *hand) refuses(want api.Errno, l ...[]byte) *hand {
	h.t.Helper()
	for _, b := range l {
		h.changesNothing(fmt.Sprintf("Deliver of %x", b), func() { h.delivers(want, b) })
	}
	return h
}
