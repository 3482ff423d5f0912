package world

import (
	"bytes"

	"sheave/api"
)

// The bits of a datagram that may be turned are those of its last bytes: of a record that is the tag.
const (
	turnable = 16
	bits     = 8 * turnable
)

// datagram is one under way to an end.
type datagram struct {
	to    int
	bytes []byte
}

// bag are the datagrams under way, in a row. What is between two ends holds so many and no more: so it is an array, and a world that
// is cloned has one of its own.
type bag struct {
	row  [api.MaxBag]datagram
	many int
}

// put has datagrams be under way to an end, behind the others, as far as there is room. More are lost.
func (b *bag) put(to int, l ...[]byte) {
	for _, x := range l[:min(len(l), len(b.row)-b.many)] {
		b.row[b.many] = datagram{to, x}
		b.many++
	}
}

// take takes the one at a place out of the row.
func (b *bag) take(at int) datagram {
	d := b.row[at]
	copy(b.row[at:], b.row[at+1:b.many])
	b.many--
	b.row[b.many] = datagram{}
	return d
}

// turn turns a bit of the one at a place, if it is long enough. Its bytes may be a clone's, too: so they are made anew.
func (b *bag) turn(at, m int) {
	d := &b.row[at]
	tail := len(d.bytes) - turnable
	if tail < 0 {
		return
	}
	bit := within(m, bits)
	d.bytes = bytes.Clone(d.bytes)
	d.bytes[tail+bit/8] ^= 1 << (bit % 8)
}
