package world_test

import (
	"fmt"
	"math"
	"slices"
	"testing"

	"sheave/api"
)

// receivers are to whom crowd's datagrams go.
var receivers = []int{1, 0, 1, 0, 0}

// crowd is a world with five records under way, each on a path of its own, 1 to 5, which is live where it arrives.
func crowd(t *testing.T) *twin {
	t.Helper()
	p := met(t)
	for i, to := range receivers {
		p.ok(add(1-to, i+1, i), poll(1-to, 9))
	}
	return p.under(receivers...)
}

// arrived tells which of crowd's datagrams did.
func (p *twin) arrived() []int {
	var l []int
	for i, to := range receivers {
		if p.w.End(to).Path(i+1).State == api.PathLive {
			l = append(l, i)
		}
	}
	return l
}

// order tells which of crowd's datagrams are under way, one behind the other.
func (p *twin) order() []int {
	p.t.Helper()
	var l []int
	x := p.clone()
	for range p.w.Under() {
		before := x.arrived()
		x.answers(deliver(0))
		for _, i := range x.arrived() {
			if !slices.Contains(before, i) {
				l = append(l, i)
			}
		}
	}
	return l
}

// places are numbers, and the places that they say of five.
var places = []struct{ n, at int }{
	{0, 0}, {1, 1}, {2, 2}, {3, 3}, {4, 4}, {5, 0}, {6, 1}, {9, 4}, {10, 0}, {-1, 0}, {-2, 1}, {-5, 4}, {-6, 0}, {-7, 1},
	{math.MaxInt, math.MaxInt % 5}, {math.MinInt, math.MaxInt % 5}, {math.MinInt + 1, math.MaxInt%5 - 1}, {math.MaxInt - 1, math.MaxInt%5 - 1},
}

// P23.1: which datagram it is, of each of the four events, and that the others stay in their order.
func TestWhichDatagram(t *testing.T) {
	all := []int{0, 1, 2, 3, 4}
	from := crowd(t)
	if got := from.order(); !slices.Equal(got, all) {
		t.Fatalf("%v are under way", got)
	}
	for _, x := range places {
		others := slices.Delete(slices.Clone(all), x.at, x.at+1)
		to := slices.Delete(slices.Clone(receivers), x.at, x.at+1)
		for kind, want := range map[int]struct{ arrived, order, under []int }{
			api.EvDeliver: {[]int{x.at}, others, to},
			api.EvDrop:    {nil, others, to},
			api.EvDouble:  {[]int{x.at}, others, receivers}, // it is there, but is not taken a second time
			api.EvTurn:    {nil, others, receivers},         // it is there, but is not taken
		} {
			p := from.clone().ok(api.Event{Kind: kind, N: x.n, M: 9}).under(want.under...)
			if got := p.arrived(); !slices.Equal(got, want.arrived) {
				t.Errorf("kind %d of %d: %v arrived, not %v", kind, x.n, got, want.arrived)
			}
			if got := p.order(); !slices.Equal(got, want.order) {
				t.Errorf("kind %d of %d: %v are under way, not %v", kind, x.n, got, want.order)
			}
			p.holds()
		}
	}
}

// P23.1: all are taken out, one by one, from each place.
func TestAllAreTakenOut(t *testing.T) {
	for _, kind := range []int{api.EvDeliver, api.EvDrop} {
		for _, n := range []int{0, 1, 3, -1, -3, 7, math.MaxInt, math.MinInt} {
			p := crowd(t)
			left := p.order()
			for len(left) > 0 {
				at := modulo(n, len(left))
				p.ok(api.Event{Kind: kind, N: n})
				if arrived := slices.Contains(p.arrived(), left[at]); arrived != (kind == api.EvDeliver) {
					t.Errorf("kind %d of %d: arrived %v", kind, n, arrived)
				}
				left = slices.Delete(left, at, at+1)
				if got := p.order(); !slices.Equal(got, left) {
					t.Errorf("kind %d of %d: %v are under way, not %v", kind, n, got, left)
				}
			}
			p.under().fails(api.ErrState, api.Event{Kind: kind, N: n})
		}
	}
}

// P23.1: what is given goes behind what is under way, whatever was taken out.
func TestBehindTheOthers(t *testing.T) {
	p := crowd(t).ok(deliver(1), drop(2)).under(1, 1, 0)                                                              // 0, 2, 4 are under way
	p.does(write(0, stream(300)), api.OK, 300, "").does(poll(0, 9), api.OK, 4, "").under(1, 1, 0, 1, 1, 1, 1).holds() // a response, and data
	p.does(poll(1, 9), api.OK, 0, "").ok(drop(0), closing(1, 3)).under(1, 0, 1, 1, 1, 1, 0).holds()
	if got := p.order(); !slices.Equal(got, []int{4}) { // the end 1 is closed
		t.Errorf("%v are under way", got)
	}
}

// P23.1: a datagram that is refused: the Code, at EvDeliver and at EvDouble, and whether it stays.
func TestDatagramsThatAreRefused(t *testing.T) {
	hello := begun(t).ok(poll(0, 9))
	reply := begun(t).ok(poll(0, 9), deliver(0), poll(1, 9))
	record := met(t).ok(write(0, stream(9)), poll(0, 9))
	closed := record.clone().ok(closing(1, 1))
	for i, x := range []struct {
		p    *twin
		many int
		code api.Errno
	}{
		{hello.clone().ok(turn(0, 7)), 1, api.ErrForged},
		{reply.clone().ok(turn(0, 7)), 1, api.ErrForged},
		{record.clone().ok(turn(0, 7)), 1, api.ErrForged},
		{closed, 2, api.ErrClosed},
		{hello.clone().ok(tick(200), poll(0, 9), deliver(1), closing(1, 1)), 2, api.ErrClosed},
		{begun(t).ok(poll(0, 9), deliver(0), poll(1, 9), write(1, stream(5)), poll(1, 9), drop(0)), 1, api.ErrState}, // a record, ahead of the reply
		{reply.clone().ok(double(0)), 1, api.ErrState},
		{record.clone().ok(double(0)), 1, api.ErrOld},
	} {
		p := x.p.clone().does(double(0), x.code, 0, "")
		if got := len(p.w.Under()); got != x.many {
			t.Errorf("%d: %d are under way", i, got)
		}
		p.does(double(0), x.code, 0, "").does(deliver(0), x.code, 0, "")
		if got := len(p.w.Under()); got != x.many-1 {
			t.Errorf("%d: %d are under way in the end", i, got)
		}
		p.holds()
		q := x.p.clone().does(deliver(0), x.code, 0, "").holds()
		if got := len(q.w.Under()); got != x.many-1 {
			t.Errorf("%d: %d are under way behind EvDeliver", i, got)
		}
	}
}

// P23.1: what was taken already: a hello has the reply be due again, a reply and a record are refused.
func TestDatagramsThatWereTaken(t *testing.T) {
	p := begun(t).ok(poll(0, 9), double(0)).does(poll(1, 9), api.OK, 1, "").does(poll(1, 9), api.OK, 0, "")
	p.ok(deliver(0)).does(poll(1, 9), api.OK, 1, "").under(0, 0)
	p.ok(deliver(1)).does(deliver(0), api.ErrState, 0, "").under().holds()

	p.ok(write(1, stream(5)), poll(1, 9), double(0)).does(double(0), api.ErrOld, 0, "").does(read(0, 9), api.OK, 5, string(stream(5)))
	p.does(deliver(0), api.ErrOld, 0, "").does(read(0, 9), api.OK, 0, "").under().holds()
}

// P23.1: the bit M modulo 128 of the last 16 bytes: each of them, turned, has the record refused; turned twice it is what it was.
func TestEachBit(t *testing.T) {
	from := met(t).ok(write(0, stream(9)), poll(0, 9))
	for bit := range 128 {
		p := from.clone().ok(turn(0, bit)).under(1)
		p.does(double(0), api.ErrForged, 0, "").ok(turn(0, bit+128)).does(double(0), api.OK, 0, "").does(read(1, 99), api.OK, 9, string(stream(9)))
	}
}

// P23.1: numbers, and the bits that they say: a bit that is turned by one number is turned back by another one that says the same.
func TestWhichBit(t *testing.T) {
	from := met(t).ok(write(0, stream(9)), poll(0, 9))
	for _, x := range []struct{ m, bit int }{
		{0, 0}, {1, 1}, {127, 127}, {128, 0}, {129, 1}, {255, 127}, {256, 0}, {-1, 0}, {-2, 1}, {-128, 127}, {-129, 0}, {-130, 1},
		{math.MaxInt, 127}, {math.MinInt, 127}, {math.MinInt + 1, 126}, {math.MaxInt - 1, 126}, {1 << 40, 0}, {-1 << 40, 127},
	} {
		for bit := range 128 {
			want := api.ErrForged
			if bit == x.bit {
				want = api.OK
			}
			from.clone().ok(turn(0, x.m), turn(0, bit)).does(deliver(0), want, 0, "")
		}
		from.clone().ok(turn(0, x.m)).holds()
		from.clone().ok(turn(0, x.m), turn(0, x.m), turn(0, x.m)).does(deliver(0), api.ErrForged, 0, "")
		from.clone().ok(turn(0, x.m), turn(0, x.m)).does(deliver(0), api.OK, 0, "")
	}
}

// P23.1: several bits of one datagram, and bits of several.
func TestTurnsOfSeveral(t *testing.T) {
	p := crowd(t).ok(turn(1, 0), turn(1, 127), turn(3, 64))
	if got := p.order(); !slices.Equal(got, []int{0, 2, 4}) {
		t.Errorf("%v are as they were", got)
	}
	p.holds().ok(turn(1, 127), turn(3, 64))
	if got := p.order(); !slices.Equal(got, []int{0, 2, 3, 4}) {
		t.Errorf("%v are as they were", got)
	}
	p.ok(turn(1, 0))
	if got := p.order(); !slices.Equal(got, []int{0, 1, 2, 3, 4}) {
		t.Errorf("%v are as they were", got)
	}
}

// P23.1: what was doubled ahead of a turn is another datagram: an end that took it does not see what becomes of the one that stays.
func TestDoubledAheadOfATurn(t *testing.T) {
	p := met(t).ok(write(0, stream(20)), poll(0, 9), double(0), turn(0, 9)).holds()
	p.does(read(1, 99), api.OK, 20, string(stream(20))).does(deliver(0), api.ErrOld, 0, "")

	// The hello that it took is known again: that of the next tick is the same, the one that was turned is not.
	p = begun(t).ok(poll(0, 9), double(0), turn(0, 9), tick(200), poll(0, 9)).holds()
	p.does(deliver(0), api.ErrState, 0, "").does(deliver(0), api.OK, 0, "").does(poll(1, 9), api.OK, 1, "")

	p = begun(t).ok(poll(0, 9), deliver(0), poll(1, 9), double(0), turn(0, 9)).holds()
	p.does(look(0, 0), api.OK, api.StOpen, "0 0 0 0 100 4").does(deliver(0), api.ErrState, 0, "")
}

// P23.1: what is turned is not what the end that gave it keeps: the next hello, and the next reply, are whole.
func TestTurnedIsNotWhatIsKept(t *testing.T) {
	p := begun(t).ok(poll(0, 9), turn(0, 3)).does(deliver(0), api.ErrForged, 0, "").does(poll(0, 9), api.OK, 0, "")
	p.ok(tick(200), poll(0, 9), double(0), poll(1, 9), turn(1, 3)).does(deliver(1), api.ErrForged, 0, "")
	p.ok(deliver(0), poll(1, 9), deliver(0)).does(look(0, 0), api.OK, api.StOpen, "200 0 0 0 100 4").holds()
}

// P23.1: of several datagrams each goes to its own end, whoever is named.
func TestToWhom(t *testing.T) {
	p := met(t)
	var want []int
	for i := range 12 {
		who := i / 2 % 2
		p.ok(write(who, stream(10)), api.Event{Kind: api.EvPoll, Who: who, N: 1})
		want = append(want, 1-who)
	}
	if got := fmt.Sprint(p.w.Under()); got != fmt.Sprint(want[:8]) { // of each end's window, which is 4
		t.Errorf("%s are under way", got)
	}
	for range 8 {
		p.ok(deliver(0))
	}
	p.does(read(0, 99), api.OK, 40, string(slices.Repeat(stream(10), 4))).does(read(1, 99), api.OK, 40, string(slices.Repeat(stream(10), 4))).holds()
}
