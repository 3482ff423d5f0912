package world_test

import (
	"bytes"
	"fmt"
	"math/big"
	"slices"

	"sheave/api"
	"sheave/conn"
)

// model is a world by the chapter's words: two ends, and rows of what is under way and of to whom it goes. Numbers are reckoned with as
// whole numbers without end.
type model struct {
	ends  [2]*conn.Conn
	to    []int
	bytes [][]byte
}

func newModel(a, b api.Config) *model {
	a.Role = 0
	b.Role = 1
	return &model{ends: [2]*conn.Conn{conn.New(a), conn.New(b)}}
}

func (m *model) clone() *model {
	x := &model{ends: [2]*conn.Conn{m.ends[0].Clone(), m.ends[1].Clone()}, to: slices.Clone(m.to)}
	for _, b := range m.bytes {
		x.bytes = append(x.bytes, bytes.Clone(b))
	}
	return x
}

// counted is n, or -(n + 1) if it is below 0.
func counted(n int) *big.Int {
	x := big.NewInt(int64(n))
	if n < 0 {
		x.Add(x, big.NewInt(1)).Neg(x)
	}
	return x
}

// modulo is what is left of it by a number.
func modulo(n, by int) int {
	return int(new(big.Int).Mod(counted(n), big.NewInt(int64(by))).Int64())
}

// tokenOf are the eight bytes of m, the highest first.
func tokenOf(m int) [8]byte {
	var b [8]byte
	counted(m).FillBytes(b[:])
	return b
}

func (m *model) put(to int, b []byte) {
	if len(m.to) == 64 {
		return
	}
	m.to = append(m.to, to)
	m.bytes = append(m.bytes, b)
}

func (m *model) gone(i int) {
	m.to = slices.Delete(m.to, i, i+1)
	m.bytes = slices.Delete(m.bytes, i, i+1)
}

func failed(e api.Errno) api.Answer { return api.Answer{Code: e} }

// do does an event.
func (m *model) do(e api.Event) api.Answer {
	switch e.Kind {
	case 1, 2, 4, 9, 10, 11, 12, 13, 14:
		if e.Who < 0 || e.Who > 1 {
			return failed(api.ErrArg)
		}
		return m.end(e)
	case 3:
		x := m.ends[0].Tick(e.N)
		y := m.ends[1].Tick(e.N)
		if x != 0 {
			return failed(x)
		}
		if y != 0 {
			return failed(y)
		}
		return api.Answer{N: m.ends[0].Clock()}
	case 5, 6, 7, 8:
		if len(m.to) == 0 {
			return failed(api.ErrState)
		}
		return failed(m.datagram(e, modulo(e.N, len(m.to))))
	}
	return failed(api.ErrArg)
}

// datagram is an event of the one at the place i.
func (m *model) datagram(e api.Event, i int) api.Errno {
	to, b := m.ends[m.to[i]], m.bytes[i]
	switch e.Kind {
	case 5:
		m.gone(i)
		return to.Deliver(b)
	case 6:
		m.gone(i)
	case 7:
		return to.Deliver(b)
	case 8:
		if len(b) >= 16 {
			bit := modulo(e.M, 128)
			last := b[len(b)-16:]
			last[bit/8] ^= []byte{1, 2, 4, 8, 16, 32, 64, 128}[bit%8]
		}
	}
	return 0
}

// end is an event of the end that it names.
func (m *model) end(e api.Event) api.Answer {
	c := m.ends[e.Who]
	switch e.Kind {
	case 1:
		n, x := c.Write(e.Bytes)
		return api.Answer{Code: x, N: n}
	case 2:
		b, x := c.Read(e.N)
		return api.Answer{Code: x, N: len(b), Bytes: b}
	case 4:
		l, x := c.Poll(e.N)
		for _, b := range l {
			m.put(1-e.Who, b)
		}
		return api.Answer{Code: x, N: len(l)}
	case 9:
		return failed(c.Add(e.Path, tokenOf(e.M)))
	case 10:
		return failed(c.Remove(e.Path))
	case 11:
		return failed(c.Update())
	case 12:
		b, x := c.Close(e.N)
		if len(b) != 0 {
			m.put(1-e.Who, b)
		}
		return failed(x)
	case 13:
		if len(e.Bytes) > 400 {
			return failed(api.ErrLong)
		}
		return failed(c.Deliver(e.Bytes))
	}
	out, in := c.Epochs()
	p := c.Path(e.Path)
	return api.Answer{N: c.State(), Bytes: fmt.Appendf(nil, "%d %d %d %d %d %d", c.Clock(), c.Left(), out, in, p.RTT, p.Window)}
}
