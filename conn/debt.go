package conn

import "sheave/api"

// mostResponses is how many challenges of a path are answered in one record.
const mostResponses = 4

// debt is what is due on a path: a record there at least, which says what came.
type debt struct {
	tokens  [mostResponses][8]byte // of the responses
	many    int                    // of them that are due
	updates bool                   // whether an update frame is
}

// record has nothing more be due than a record.
func (d *debt) record() {}

// update has an update frame be due.
func (d *debt) update() { d.updates = true }

// respond has a response be due, if there is room for one more: so what is held is bounded, however many challenges come.
func (d *debt) respond(token [8]byte) {
	if d.many < mostResponses {
		d.tokens[d.many] = token
		d.many++
	}
}

// owe has something be due on paths.
func (c *Conn) owe(what func(d *debt), ids ...int) {
	for _, id := range ids {
		d := c.due[id]
		what(&d)
		c.due[id] = d
	}
}

// paid are the frames of the record that is due on a path, on which nothing is due any more then.
func (c *Conn) paid(id int) []api.Frame {
	d := c.due[id]
	delete(c.due, id)
	var l []api.Frame
	for _, token := range d.tokens[:d.many] {
		l = append(l, api.Frame{Kind: api.FrResponse, Token: token})
	}
	out, in := c.guard.Epochs()
	if d.updates {
		l = append(l, api.Frame{Kind: api.FrUpdate, At: out})
	}
	if top, below := c.guard.Got(id); top >= 0 {
		l = append(l, api.Frame{Kind: api.FrGot, At: top, Limit: in, Ranges: below})
	}
	return append(l, api.Frame{Kind: api.FrAck, At: c.in.Here(), Limit: c.in.Limit(), Ranges: c.in.Beyond()})
}
