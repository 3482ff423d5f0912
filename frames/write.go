package frames

import (
	"sheave/api"
	"sheave/octets"
)

// written are the bytes of a frame that may be. Of such a one octets takes each number, so it tells no error here.
func written(f api.Frame) []byte {
	b := []byte{byte(f.Kind)}
	switch f.Kind {
	case api.FrData:
		b = put(b, f.At)
		b, _ = octets.PutBytes(b, f.Bytes)
	case api.FrAck:
		b = put(b, f.At, f.Limit)
		b = put(b, steps(f.Ranges, f.At)...)
	case api.FrChallenge, api.FrResponse:
		b = append(b, f.Token[:]...)
	case api.FrUpdate, api.FrClose:
		b = put(b, f.At)
	case api.FrGot:
		b = put(b, f.At, f.Limit)
		b = put(b, steps(f.Ranges, 0)...)
	}
	return b
}

// put lays numbers behind b.
func put(b []byte, l ...int) []byte {
	for _, n := range l {
		b, _ = octets.PutVar(b, n)
	}
	return b
}

// steps are the numbers that tell ranges: how many there are, and of each how far it is from what is ahead to its beginning,
// and from there to its end. They are small where the numbers of the ranges are great, and so take few bytes.
func steps(l []api.Range, ahead int) []int {
	told := []int{len(l)}
	for _, r := range l {
		told = append(told, r.From-ahead, r.To-r.From)
		ahead = r.To
	}
	return told
}
