package conn

import (
	"bytes"

	"sheave/api"
	"sheave/frames"
	"sheave/packet"
)

// Deliver takes a datagram that came. Whoever made it up: what the handshake, or the guard, refuses changes nothing.
func (c *Conn) Deliver(b []byte) api.Errno {
	if c.over() {
		return api.ErrClosed
	}
	p, e := packet.Parse(b)
	if e != api.OK {
		return e
	}
	switch p.Kind {
	case api.PkHello:
		return c.takeHello(p.Body)
	case api.PkReply:
		return c.takeReply(p.Body)
	}
	return c.takeRecord(b)
}

// takeHello takes the first message. The same one once more shows that the reply was lost; it makes no other keys.
func (c *Conn) takeHello(message []byte) api.Errno {
	g := &c.greeting
	switch {
	case c.role != answers:
		return api.ErrState
	case c.state == api.StOpen && bytes.Equal(message, g.hello):
		g.due = true
		return api.OK
	case c.state != api.StBegin:
		return api.ErrState
	}
	next := g.shake.Clone() // both steps are made, or none
	if _, e := next.TakeFirst(message); e != api.OK {
		return e
	}
	reply, e := next.Second(nil)
	if e != api.OK {
		return e
	}
	keys, _ := next.Keys()
	c.open(keys)
	g.hello, g.reply, g.due = message, reply, true
	return api.OK
}

// takeReply takes the second message.
func (c *Conn) takeReply(message []byte) api.Errno {
	g := &c.greeting
	if c.role != begins || c.state != api.StWaits {
		return api.ErrState
	}
	if _, e := g.shake.TakeSecond(message); e != api.OK {
		return e
	}
	keys, _ := g.shake.Keys()
	c.open(keys)
	g.hello = nil
	return api.OK
}

// takeRecord takes a record. The other end sealed it on a path that it may use: so one of which nothing is known here is live, if
// there are not too many. Begin refuses any other.
func (c *Conn) takeRecord(b []byte) api.Errno {
	if c.state != api.StOpen {
		return api.ErrState
	}
	id, _, text, e := c.guard.Open(b)
	if e != api.OK {
		return e
	}
	l, e := frames.Decode(text)
	if e != api.OK {
		return e
	}
	if c.table.Begin(id) == api.OK {
		c.sched.Open(id)
	}
	take := c.takers()
	for _, f := range l {
		take[f.Kind](id, f)
		if c.over() {
			break
		}
	}
	return api.OK
}

// takers are what is done with a frame that came on a path, by its kind.
func (c *Conn) takers() map[int]func(id int, f api.Frame) {
	return map[int]func(id int, f api.Frame){
		api.FrData:      c.takeData,
		api.FrAck:       c.takeAck,
		api.FrChallenge: c.takeChallenge,
		api.FrResponse:  c.takeResponse,
		api.FrUpdate:    c.takeUpdate,
		api.FrClose:     c.takeClose,
		api.FrGot:       c.takeGot,
	}
}

// takeData takes bytes. They are answered even if they came already: what said so may have been lost.
func (c *Conn) takeData(id int, f api.Frame) {
	c.in.Take(f.At, f.Bytes)
	c.owe((*debt).record, id)
}

func (c *Conn) takeAck(_ int, f api.Frame) {
	c.out.Ack(f.At, f.Ranges)
	c.out.Allow(f.Limit)
}

func (c *Conn) takeChallenge(id int, f api.Frame) {
	c.owe(func(d *debt) { d.respond(f.Token) }, id)
}

func (c *Conn) takeResponse(id int, f api.Frame) {
	if c.table.Answer(id, f.Token) {
		c.sched.Open(id)
	}
}

func (c *Conn) takeUpdate(id int, _ api.Frame) { c.owe((*debt).record, id) }

func (c *Conn) takeClose(_ int, f api.Frame) { c.state, c.why = api.StClosed, f.At }

// takeGot takes what the other end says of the records that it got. Those of an earlier epoch count as lost already, and their
// counters are others' now.
func (c *Conn) takeGot(id int, f api.Frame) {
	if out, _ := c.guard.Epochs(); f.Limit != out {
		return
	}
	c.confirmed = true
	lost, ticks := c.sched.Got(id, f.At, f.Ranges, c.clock)
	c.table.Sample(id, ticks)
	c.lose(lost)
}
