package conn_test

import (
	"bytes"
	"slices"
	"testing"

	"sheave/api"
	"sheave/conn"
	"sheave/frames"
	"sheave/guard"
	"sheave/inbox"
	"sheave/outbox"
	"sheave/packet"
	"sheave/paths"
	"sheave/sample"
	"sheave/sched"
	"sheave/shake"
)

// model is an end by the chapter's words, one behind the other, over all numbers that a path may have. What is due on each stands in
// rows by these numbers.
type model struct {
	role, state, clock, why int
	hs                      *shake.Shake
	g                       *guard.Guard
	out                     *outbox.Outbox
	in                      *inbox.Inbox
	table                   *paths.Table
	sched                   *sched.Sched

	message1, message2         []byte
	nextHello, nextAsk         int
	replyDue, widerDue, notYet bool // notYet: the epoch is not confirmed
	responses                  [256][][8]byte
	somethingDue, updateDue    [256]bool
}

func newModel(c api.Config) *model {
	m := &model{role: c.Role, out: outbox.New(2048), in: inbox.New(2048), table: paths.New(), sched: sched.New(c.Policy)}
	if c.Role == 0 {
		m.hs = shake.Begin(c.Secret, c.Draw, c.Public)
	} else {
		m.hs = shake.Await(c.Secret, c.Draw)
	}
	return m
}

func (m *model) clone() *model {
	x := *m
	x.hs, x.out, x.in, x.table, x.sched = m.hs.Clone(), m.out.Clone(), m.in.Clone(), m.table.Clone(), m.sched.Clone()
	if m.g != nil {
		x.g = m.g.Clone()
	}
	for i, l := range m.responses {
		x.responses[i] = slices.Clone(l)
	}
	return &x
}

func (m *model) epochs() (int, int) {
	if m.g == nil {
		return 0, 0
	}
	return m.g.Epochs()
}

func (m *model) path(id int) api.Path {
	return api.Path{ID: id, State: m.table.State(id), RTT: m.table.RTT(id), Window: m.sched.Window(id), Under: m.sched.Under(id)}
}

func (m *model) lost(l []api.Range) {
	for _, r := range l {
		m.out.Lost(r.From, r.To-r.From)
	}
}

func (m *model) opens() {
	m.state = 2
	k, _ := m.hs.Keys()
	if m.role == 0 {
		m.g = guard.New(0, k.From, k.To)
	} else {
		m.g = guard.New(1, k.To, k.From)
	}
	m.table.Begin(0)
	m.sched.Open(0)
	m.out.Allow(2048)
}

func (m *model) write(b []byte) (int, api.Errno) {
	if m.state > 2 {
		return 0, api.ErrClosed
	}
	return m.out.Write(b), api.OK
}

func (m *model) read(most int) ([]byte, api.Errno) {
	if m.state > 2 {
		return nil, api.ErrClosed
	}
	b := m.in.Read(most)
	if len(b) > 0 {
		m.widerDue = true
	}
	return b, api.OK
}

func (m *model) tick(n int) api.Errno {
	if m.state > 2 {
		return api.ErrClosed
	}
	if n < 0 {
		return api.ErrArg
	}
	if n > 1<<40 {
		n = 1 << 40
	}
	m.clock += n
	if m.clock > 1<<40 {
		m.clock = 1 << 40
	}
	if m.state != 2 {
		return api.OK
	}
	for _, id := range m.table.Live() {
		age := 3*m.table.RTT(id) + 50
		if age > 1000 {
			age = 1000
		}
		l := m.sched.Late(id, m.clock, age)
		m.lost(l)
		if len(l) > 0 {
			m.table.Sample(id, 8*m.table.RTT(id))
		}
	}
	return api.OK
}

// record is one on a path, if it is not refused.
func (m *model) record(id int, l ...api.Frame) ([][]byte, bool) {
	text, _ := frames.Encode(l)
	b, e := m.g.Seal(id, text)
	if e != api.OK {
		m.remove(id)
		return nil, false
	}
	return [][]byte{b}, true
}

func (m *model) poll(most int) ([][]byte, api.Errno) {
	if m.state > 2 {
		return nil, api.ErrClosed
	}
	if m.role == 0 && m.state == 0 {
		b, e := m.hs.First(nil)
		if e != api.OK {
			m.state = 4
			return nil, e
		}
		m.message1, m.state, m.nextHello = b, 1, m.clock
	}
	var told [][]byte
	if m.state == 1 && m.clock >= m.nextHello {
		told = append(told, append([]byte{1}, m.message1...))
		m.nextHello = m.clock + 200
	}
	if m.state != 2 {
		return told, api.OK
	}
	if m.role != 0 && m.replyDue {
		told = append(told, append([]byte{2}, m.message2...))
		m.replyDue = false
	}
	for _, id := range m.table.Due(m.clock) {
		token, _ := m.table.Token(id)
		l, _ := m.record(id, api.Frame{Kind: 3, Token: token})
		told = append(told, l...)
	}
	told = append(told, m.pollDue()...)
	return append(told, m.pollData(most)...), api.OK
}

func (m *model) pollDue() (told [][]byte) {
	if m.out.Blocked() && m.clock >= m.nextAsk {
		for _, id := range m.table.Live() {
			m.updateDue[id], m.somethingDue[id] = true, true
		}
		m.nextAsk = m.clock + 200
	}
	if m.widerDue {
		for _, id := range m.table.Live() {
			m.somethingDue[id] = true
		}
		m.widerDue = false
	}
	own, its := m.g.Epochs()
	for id := range 256 {
		if len(m.responses[id]) == 0 && !m.somethingDue[id] {
			continue
		}
		var l []api.Frame
		for _, token := range m.responses[id] {
			l = append(l, api.Frame{Kind: 4, Token: token})
		}
		if m.updateDue[id] {
			l = append(l, api.Frame{Kind: 5, At: own})
		}
		if top, below := m.g.Got(id); top >= 0 {
			l = append(l, api.Frame{Kind: 7, At: top, Limit: its, Ranges: below})
		}
		l = append(l, api.Frame{Kind: 2, At: m.in.Here(), Limit: m.in.Limit(), Ranges: m.in.Beyond()})
		b, _ := m.record(id, l...)
		told = append(told, b...)
		m.responses[id], m.updateDue[id], m.somethingDue[id] = nil, false, false
	}
	return told
}

func (m *model) pollData(most int) (told [][]byte) {
	for n := 0; n < most && n < 64; n++ {
		c, is := m.out.Next(128)
		if !is {
			break
		}
		live := m.table.Live()
		var rtts []int
		for _, id := range live {
			rtts = append(rtts, m.table.RTT(id))
		}
		id, is := m.sched.Pick(live, rtts)
		if !is {
			m.out.Lost(c.At, len(c.Bytes))
			break
		}
		counter := m.g.Counter(id)
		b, is := m.record(id, api.Frame{Kind: 1, At: c.At, Bytes: c.Bytes})
		if !is {
			m.out.Lost(c.At, len(c.Bytes))
			continue
		}
		told = append(told, b...)
		m.sched.Sent(id, counter, m.clock, []api.Range{{From: c.At, To: c.At + len(c.Bytes)}})
	}
	return told
}

func (m *model) deliver(b []byte) api.Errno {
	if m.state > 2 {
		return api.ErrClosed
	}
	p, e := packet.Parse(b)
	if e != api.OK {
		return e
	}
	switch {
	case p.Kind == 1 && m.role != 0 && m.state == 0:
		hs := m.hs.Clone()
		if _, e := hs.TakeFirst(p.Body); e != api.OK {
			return e
		}
		second, e := hs.Second(nil)
		if e != api.OK {
			return e
		}
		m.hs, m.message1, m.message2, m.replyDue = hs, p.Body, second, true
		m.opens()
		return api.OK
	case p.Kind == 1 && m.role != 0 && m.state == 2 && string(p.Body) == string(m.message1):
		m.replyDue = true
		return api.OK
	case p.Kind == 2 && m.role == 0 && m.state == 1:
		if _, e := m.hs.TakeSecond(p.Body); e != api.OK {
			return e
		}
		m.opens()
		return api.OK
	case p.Kind == 3 && m.state == 2:
		return m.deliverRecord(b)
	}
	return api.ErrState
}

func (m *model) deliverRecord(b []byte) api.Errno {
	id, _, text, e := m.g.Open(b)
	if e != api.OK {
		return e
	}
	l, e := frames.Decode(text)
	if e != api.OK {
		return e
	}
	if m.table.State(id) == api.PathNone {
		if m.table.Begin(id) == api.OK {
			m.sched.Open(id)
		}
	}
	for _, f := range l {
		switch f.Kind {
		case 1:
			m.in.Take(f.At, f.Bytes)
			m.somethingDue[id] = true
		case 2:
			m.out.Ack(f.At, f.Ranges)
			m.out.Allow(f.Limit)
		case 3:
			if len(m.responses[id]) < 4 {
				m.responses[id] = append(m.responses[id], f.Token)
			}
		case 4:
			if m.table.Answer(id, f.Token) {
				m.sched.Open(id)
			}
		case 5:
			m.somethingDue[id] = true
		case 6:
			m.state, m.why = 3, f.At
			return api.OK
		case 7:
			if own, _ := m.g.Epochs(); own == f.Limit {
				m.notYet = false
				lost, ticks := m.sched.Got(id, f.At, f.Ranges, m.clock)
				m.table.Sample(id, ticks)
				m.lost(lost)
			}
		}
	}
	return api.OK
}

// needsOpen is why a call is refused that is for an end in StOpen.
func (m *model) needsOpen() api.Errno {
	return [...]api.Errno{api.ErrState, api.ErrState, api.OK, api.ErrClosed, api.ErrClosed}[m.state]
}

func (m *model) add(id int, token [8]byte) api.Errno {
	if e := m.needsOpen(); e != api.OK {
		return e
	}
	return m.table.Add(id, token, m.clock)
}

func (m *model) remove(id int) api.Errno {
	if e := m.needsOpen(); e != api.OK {
		return e
	}
	e := m.table.Remove(id)
	if e == api.OK {
		m.lost(m.sched.Close(id))
	}
	return e
}

func (m *model) update() api.Errno {
	if e := m.needsOpen(); e != api.OK {
		return e
	}
	if m.notYet {
		return api.ErrState
	}
	if e := m.g.Advance(); e != api.OK {
		return e
	}
	m.notYet = true
	for id := range 256 {
		m.lost(m.sched.Close(id))
		if m.table.State(id) == api.PathLive {
			m.sched.Open(id)
			m.updateDue[id], m.somethingDue[id] = true, true
		}
	}
	return api.OK
}

func (m *model) close(why int) ([]byte, api.Errno) {
	if m.state > 2 {
		return nil, api.ErrClosed
	}
	if why < 0 || why > 1<<62-1 {
		return nil, api.ErrArg
	}
	was := m.state
	m.state = 3
	live := m.table.Live()
	if was != 2 || len(live) == 0 {
		return nil, api.OK
	}
	text, _ := frames.Encode([]api.Frame{{Kind: 6, At: why}})
	b, e := m.g.Seal(live[0], text)
	if e != api.OK {
		return nil, api.OK
	}
	return b, api.OK
}

// pair is an end, and what it must be like.
type pair struct {
	t *testing.T
	c *conn.Conn
	m *model
}

func pairOf(t *testing.T, c api.Config) *pair { return &pair{t, conn.New(c), newModel(c)} }

func (p *pair) clone() *pair { return &pair{p.t, p.c.Clone(), p.m.clone()} }

// is holds what a call told to what it must, and then what is seen.
func (p *pair) is(call string, same bool, got, want any) {
	p.t.Helper()
	if !same {
		p.t.Fatalf("%s: %x, not %x", call, got, want)
	}
	p.glance()
}

// glance holds what an end tells of itself to what it must.
func (p *pair) glance() {
	p.t.Helper()
	out, in := p.c.Epochs()
	got := [6]int{p.c.State(), p.c.Clock(), p.c.Why(), p.c.Left(), out, in}
	out, in = p.m.epochs()
	if want := [6]int{p.m.state, p.m.clock, p.m.why, p.m.out.End() - p.m.out.Base(), out, in}; got != want {
		p.t.Fatalf("state, clock, why, left, epochs: %d, not %d", got, want)
	}
	for id := -1; id <= 256; id++ {
		if got, want := p.c.Path(id), p.m.path(id); got != want {
			p.t.Fatalf("Path: %+v, not %+v", got, want)
		}
	}
}

func (p *pair) write(b []byte) int {
	p.t.Helper()
	b = sample.Roomy(b)
	got, e := p.c.Write(b)
	want, wrong := p.m.write(b)
	sample.Spoil(b)
	p.is("Write", got == want && e == wrong, got, want)
	return want
}

func (p *pair) read(most int) []byte {
	p.t.Helper()
	got, e := p.c.Read(most)
	want, wrong := p.m.read(most)
	p.is("Read", bytes.Equal(got, want) && e == wrong, got, want)
	sample.Spoil(got)
	return want
}

func (p *pair) tick(n int) {
	p.t.Helper()
	got, want := p.c.Tick(n), p.m.tick(n)
	p.is("Tick", got == want, got, want)
}

func (p *pair) poll(most int) [][]byte {
	p.t.Helper()
	got, e := p.c.Poll(most)
	want, wrong := p.m.poll(most)
	p.is("Poll", slices.EqualFunc(got, want, bytes.Equal) && e == wrong, got, want)
	for _, b := range got {
		sample.Spoil(b)
	}
	return want
}

func (p *pair) deliver(b []byte) api.Errno {
	p.t.Helper()
	x := sample.Roomy(b)
	got, want := p.c.Deliver(x), p.m.deliver(b)
	if !bytes.Equal(x, b) {
		p.t.Fatalf("%x, delivered, is %x", b, x)
	}
	sample.Spoil(x)
	p.is("Deliver", got == want, got, want)
	return want
}

func (p *pair) add(id int, token [8]byte) {
	p.t.Helper()
	got, want := p.c.Add(id, token), p.m.add(id, token)
	p.is("Add", got == want, got, want)
}

func (p *pair) remove(id int) {
	p.t.Helper()
	got, want := p.c.Remove(id), p.m.remove(id)
	p.is("Remove", got == want, got, want)
}

func (p *pair) update() {
	p.t.Helper()
	got, want := p.c.Update(), p.m.update()
	p.is("Update", got == want, got, want)
}

func (p *pair) close(why int) []byte {
	p.t.Helper()
	got, e := p.c.Close(why)
	want, wrong := p.m.close(why)
	p.is("Close", bytes.Equal(got, want) && e == wrong, got, want)
	sample.Spoil(got)
	return want
}

// look holds what an end does from here on to what it must, by clones.
func (p *pair) look() {
	p.t.Helper()
	for _, then := range []func(x *pair){
		func(x *pair) {},
		func(x *pair) { x.tick(130) },
		func(x *pair) { x.tick(2000) },
		func(x *pair) { x.update() },
		func(x *pair) { x.read(5000) },
		func(x *pair) { x.write(stream(5)) },
		func(x *pair) { x.remove(0) },
	} {
		x := p.clone()
		then(x)
		x.poll(64)
		x.poll(64)
		x.close(1)
	}
}
