package conn

import (
	"maps"
	"slices"

	"sheave/api"
	"sheave/packet"
)

// mostData is how many data records one Poll gives at most.
const mostData = 64

// sender puts a record with these frames on its way on a path, and tells whether that could be done.
type sender func(id int, l ...api.Frame) bool

// Poll gives what is to be sent. Of the bytes that were written so many records go at most.
func (c *Conn) Poll(most int) ([][]byte, api.Errno) {
	switch {
	case c.over():
		return nil, api.ErrClosed
	case c.state != api.StOpen && c.role == begins:
		return c.greet()
	case c.state != api.StOpen:
		return nil, api.OK
	}
	told := c.answer()
	send := func(id int, l ...api.Frame) bool {
		b, e := c.seal(id, l...)
		if e != api.OK {
			c.remove(id) // nothing can be sealed there any more, so it is of no use
			return false
		}
		told = append(told, b)
		return true
	}
	c.challenge(send)
	c.ask()
	c.pay(send)
	c.flow(min(most, mostData), send)
	return told, api.OK
}

// greet is the hello, as often as it takes until there is a reply.
func (c *Conn) greet() ([][]byte, api.Errno) {
	g := &c.greeting
	if c.state == api.StBegin {
		hello, e := g.shake.First(nil)
		if e != api.OK {
			c.state = api.StFailed
			return nil, e
		}
		c.state, g.hello, g.next = api.StWaits, hello, c.clock
	}
	if c.clock < g.next {
		return nil, api.OK
	}
	g.next = c.clock + again
	return [][]byte{printed(api.PkHello, g.hello)}, api.OK
}

// answer is the reply, if it is due.
func (c *Conn) answer() [][]byte {
	g := &c.greeting
	if !g.due {
		return nil
	}
	g.due = false
	return [][]byte{printed(api.PkReply, g.reply)}
}

// challenge asks on each path that is to be asked now whether somebody is there.
func (c *Conn) challenge(send sender) {
	for _, id := range c.table.Due(c.clock) {
		token, _ := c.table.Token(id)
		send(id, api.Frame{Kind: api.FrChallenge, Token: token})
	}
}

// ask has records be due by which both ends learn of room: if there are bytes for which the other end has none, an update frame asks
// it, since it answers each of those; and if there is room again here, a record tells it.
func (c *Conn) ask() {
	live := c.table.Live()
	if c.out.Blocked() && c.clock >= c.nextAsk {
		c.nextAsk = c.clock + again
		c.owe((*debt).update, live...)
	}
	if c.wider {
		c.wider = false
		c.owe((*debt).record, live...)
	}
}

// pay sends on each path the record that is due there.
func (c *Conn) pay(send sender) {
	for _, id := range slices.Sorted(maps.Keys(c.due)) {
		send(id, c.paid(id)...)
	}
}

// flow sends bytes that were written, in so many records at most, as long as a path has room for one more.
func (c *Conn) flow(most int, send sender) {
	for range most {
		chunk, is := c.out.Next(api.MaxData)
		if !is {
			return
		}
		row := []api.Range{{From: chunk.At, To: chunk.At + len(chunk.Bytes)}}
		live := c.table.Live()
		id, is := c.sched.Pick(live, each(live, c.table.RTT))
		if !is {
			c.lose(row)
			return
		}
		counter := c.guard.Counter(id)
		if send(id, api.Frame{Kind: api.FrData, At: chunk.At, Bytes: chunk.Bytes}) {
			c.sched.Sent(id, counter, c.clock, row)
		} else {
			c.lose(row)
		}
	}
}

// printed is a datagram of the handshake. Its messages are as long as one may be.
func printed(kind int, message []byte) []byte {
	b, _ := packet.Print(api.Packet{Kind: kind, Body: message})
	return b
}

// each is what is told of each number, in their order.
func each(l []int, tell func(n int) int) []int {
	var told []int
	for _, n := range l {
		told = append(told, tell(n))
	}
	return told
}
