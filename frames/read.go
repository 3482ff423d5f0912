package frames

import (
	"sheave/api"
	"sheave/octets"
)

// reader goes along a record's bytes. Where it can't go on it panics with the error, and read catches that: so the fields of a
// frame are read one behind the other, as its row has them, without a way out behind each.
type reader struct{ left []byte }

// read are the frames of b, or why there are none.
func read(b []byte) (l []api.Frame, e api.Errno) {
	defer func() {
		if stop := recover(); stop != nil {
			l, e = nil, told(stop)
		}
	}()
	r := reader{b}
	for len(r.left) > 0 {
		if len(l) == api.MaxFrames {
			panic(api.ErrLong)
		}
		l = append(l, r.frame())
	}
	return l, api.OK
}

// told is the error that reading stopped with. Bytes at which it would stop in another way would be no frame's either: no call
// panics, whatever it is given.
func told(stop any) api.Errno {
	switch why := stop.(type) {
	case api.Errno:
		return why
	default:
		return api.ErrFrame
	}
}

// stopAt stops reading, if there is an error.
func stopAt(e api.Errno) {
	if e != api.OK {
		panic(e)
	}
}

// frame reads one. Of a kind that is none nothing more is read; mayBe refuses it, as it does what is read whole and wrong.
func (r *reader) frame() api.Frame {
	f := api.Frame{Kind: r.kind()}
	switch f.Kind {
	case api.FrData:
		f.At = r.number()
		f.Bytes = r.text()
	case api.FrAck:
		f.At = r.number()
		f.Limit = r.number()
		f.Ranges = r.ranges(f.At)
	case api.FrChallenge, api.FrResponse:
		f.Token = r.token()
	case api.FrUpdate, api.FrClose:
		f.At = r.number()
	case api.FrGot:
		f.At = r.number()
		f.Limit = r.number()
		f.Ranges = r.ranges(0)
	}
	stopAt(Check(f))
	return f
}

// kind reads the byte that there is, as long as anything is left.
func (r *reader) kind() int {
	kind := r.left[0]
	r.left = r.left[1:]
	return int(kind)
}

func (r *reader) number() int {
	n, rest, e := octets.TakeVar(r.left)
	stopAt(e)
	r.left = rest
	return n
}

func (r *reader) text() []byte {
	text, rest, e := octets.TakeBytes(r.left, api.MaxData)
	stopAt(e)
	r.left = rest
	return text
}

func (r *reader) token() [8]byte {
	var token [8]byte
	many := copy(token[:], r.left)
	if many < len(token) {
		panic(api.ErrShort)
	}
	r.left = r.left[many:]
	return token
}

// ranges reads ranges, the first of which is told from ahead on. Too many are refused as soon as their number is told, so that
// it never says how long the loop goes on.
func (r *reader) ranges(ahead int) []api.Range {
	many := r.number()
	if many > api.MaxRanges {
		panic(api.ErrFrame)
	}
	var l []api.Range
	for range many {
		next := r.next(ahead)
		l = append(l, next)
		ahead = next.To
	}
	return l
}

// next reads the range that is told from ahead on. How long it is is held against the room behind its beginning (which is below
// 0, if it begins beyond the end), since the sum of all three may be beyond an int.
func (r *reader) next(ahead int) api.Range {
	gap := r.number()
	long := r.number()
	room := api.MaxVar - ahead - gap
	if long > room {
		panic(api.ErrFrame)
	}
	from := ahead + gap
	return api.Range{From: from, To: from + long}
}
