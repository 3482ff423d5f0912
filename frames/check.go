package frames

import "sheave/api"

// mayBe tells whether a frame is as its kind's row says: the fields that the row names, and then those that it does not.
func mayBe(f api.Frame) bool {
	switch f.Kind {
	case api.FrData:
		return isWithin(f.At, 0, api.MaxVar) && isWithin(len(f.Bytes), 1, api.MaxData) &&
			isBlank(api.Frame{Limit: f.Limit, Ranges: f.Ranges, Token: f.Token})
	case api.FrAck:
		return isWithin(f.At, 0, api.MaxVar) && isWithin(f.Limit, 0, api.MaxVar) && isRising(f.Ranges, f.At+1, api.MaxVar) &&
			isBlank(api.Frame{Bytes: f.Bytes, Token: f.Token})
	case api.FrChallenge, api.FrResponse:
		return isBlank(api.Frame{At: f.At, Limit: f.Limit, Ranges: f.Ranges, Bytes: f.Bytes})
	case api.FrUpdate:
		return isWithin(f.At, 0, api.MaxEpoch) &&
			isBlank(api.Frame{Limit: f.Limit, Ranges: f.Ranges, Bytes: f.Bytes, Token: f.Token})
	case api.FrClose:
		return isWithin(f.At, 0, api.MaxVar) &&
			isBlank(api.Frame{Limit: f.Limit, Ranges: f.Ranges, Bytes: f.Bytes, Token: f.Token})
	case api.FrGot:
		return isWithin(f.At, 0, api.MaxVar) && isWithin(f.Limit, 0, api.MaxEpoch) && isRising(f.Ranges, 0, f.At) &&
			isBlank(api.Frame{Bytes: f.Bytes, Token: f.Token})
	}
	return false
}

func isWithin(n, least, most int) bool { return n >= least && n <= most }

// isBlank tells whether nothing stands in a frame's fields.
func isBlank(f api.Frame) bool {
	return f.At == 0 && f.Limit == 0 && len(f.Ranges) == 0 && len(f.Bytes) == 0 && f.Token == [8]byte{}
}

// isRising tells whether ranges may be that begin at least there and end at most there. Two that touch would be one, so the
// next may begin only behind the number that the last one ended at.
func isRising(l []api.Range, least, most int) bool {
	if len(l) > api.MaxRanges {
		return false
	}
	for _, r := range l {
		if r.From < least || r.To <= r.From || r.To > most {
			return false
		}
		least = r.To + 1
	}
	return true
}
