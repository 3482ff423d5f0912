package keys_test

import (
	"math"
	"testing"

	"sheave/api"
	"sheave/kdf"
	"sheave/keys"
	"sheave/sample"
)

// P15.1: the chapter's examples.
func TestExamples(t *testing.T) {
	root := drawn(20)
	k := keys.New(root)
	look := func(epoch int, want api.Key, wrong api.Errno) {
		t.Helper()
		if got, e := k.Key(epoch); got != want || e != wrong {
			t.Errorf("Key(%d): %x, %d", epoch, got, e)
		}
	}
	if got := k.Epoch(); got != 0 {
		t.Errorf("Epoch: %d", got)
	}
	look(0, kdf.Of(root), api.OK)
	look(1, api.Key{}, api.ErrEpoch)
	look(-1, api.Key{}, api.ErrEpoch)
	for range 2 {
		if e := k.Advance(); e != api.OK {
			t.Errorf("Advance: %d", e)
		}
	}
	look(0, api.Key{}, api.ErrEpoch)
	look(1, kdf.Of(kdf.Later(root)), api.OK)
	look(2, kdf.Of(kdf.Later(kdf.Later(root))), api.OK)
}

// P15.1: keys of epochs, with the answers of Python's hmac and hashlib.
func TestOfKnown(t *testing.T) {
	var counted api.Key
	for i := range counted {
		counted[i] = byte(i)
	}
	for _, x := range []struct {
		root api.Key
		want map[int]string
	}{
		{api.Key{}, map[int]string{
			0:     "7c6de8cde8fad56e3984d8573f5cf7bb002263c33934328ee83070f4f0313f91",
			1:     "25f0fbd6f4873bfc9d981fd82fba68a89521449339cd56a32fc964337eb6f04c",
			2:     "2e06f0e654213a924b0c6d2c12800534876083c7f284afacc3ae09f61510eb1c",
			256:   "7043c68ecace7b7b67cc3e3b0f298cb22a1dfade847e0592c308a784724f6f6f",
			65535: "b1b9980c5d3c40416521ca5bfa8aeca179b0f4fc946292a3395e8eb7ef4f9c27",
		}},
		{counted, map[int]string{
			0:     "b6e377577c82b3b5f5270f80828e26decd2ef3f86d5103495f61f2a07432caaf",
			1:     "bdc541719ecc281ce78ed529941e597c560d5dfa167fec6ae112f399b73e0590",
			3:     "533844d978a1cfaf63943bcc4ae20b7bc7bed8f1ed54558826da00afafd5eacc",
			255:   "36d97795741a730b1b9b6e2a4451d9abf664a42a2bdd672894f8db3545a9dc72",
			65534: "de7c086618412f9917e3a9b4d868739109c5cb1e198b20546462ab985bc84327",
			65535: "41fbe3dfaf12ad00ef79af28c1e2518810ab67a6f8355e7bd9b87d9f23a3eaf4",
		}},
	} {
		k := keys.New(x.root)
		for epoch := range end + 1 {
			if want, ok := x.want[epoch]; ok {
				if got, e := k.Key(epoch); e != api.OK || got != api.Key(sample.Hex(want)) {
					t.Errorf("by %x, epoch %d: %x, %d", x.root, epoch, got, e)
				}
			}
			k.Advance()
		}
	}
}

// P15.1: at the beginning the epoch is 0, its key is there, and no other one.
func TestNew(t *testing.T) {
	for _, root := range roots() {
		newPair(t, root).look()
		k := keys.New(root)
		if got := k.Epoch(); got != 0 {
			t.Errorf("by %x: epoch %d", root, got)
		}
		if got, e := k.Key(0); e != api.OK || got != kdf.Of(root) {
			t.Errorf("by %x: %x, %d", root, got, e)
		}
		for _, epoch := range []int{1, -1, 2, -2, 1 << 16, 1 << 32, -1 << 32, math.MinInt, math.MaxInt} {
			if got, e := k.Key(epoch); e != api.ErrEpoch || got != (api.Key{}) {
				t.Errorf("by %x, Key(%d): %x, %d", root, epoch, got, e)
			}
		}
		if got, e := k.Next(); e != api.OK || got != kdf.Of(kdf.Later(root)) {
			t.Errorf("by %x: %x, %d is next", root, got, e)
		}
	}
}

// P15.1: each epoch's key is made of the root alone, and at each step there are those of the epoch and of one less, no others.
func TestEachEpoch(t *testing.T) {
	const many = 300
	for _, root := range roots() {
		p := newPair(t, root)
		for epoch := range many {
			p.look()
			want := kdf.Of(on(root, epoch))
			if got, e := p.k.Key(epoch); e != api.OK || got != want {
				t.Fatalf("by %x, Key(%d): %x, %d, not %x", root, epoch, got, e, want)
			}
			for _, x := range []struct {
				epoch int
				want  api.Errno
			}{{epoch + 1, api.ErrEpoch}, {epoch, api.OK}, {epoch - 1, api.OK}, {epoch - 2, api.ErrEpoch}} {
				if x.epoch < 0 {
					x.want = api.ErrEpoch
				}
				if got, e := p.k.Key(x.epoch); e != x.want || e != api.OK && got != (api.Key{}) {
					t.Fatalf("in %d, Key(%d): %x, %d", epoch, x.epoch, got, e)
				}
			}
			p.advance()
		}
	}
}

// P15.1: At begins with the epoch that was named, or with the nearest one. The key of the one ahead is not there, and no more
// so one Advance on, where the first one's is.
func TestAt(t *testing.T) {
	for i, x := range named {
		secret := drawn(uint64(100 + i))
		k := keys.At(secret, x.asked)
		first := kdf.Of(secret)
		if got := k.Epoch(); got != x.epoch {
			t.Errorf("At %d: epoch %d", x.asked, got)
		}
		if got, e := k.Key(x.epoch); e != api.OK || got != first {
			t.Errorf("At %d: %x, %d", x.asked, got, e)
		}
		if got, e := k.Key(x.epoch - 1); e != api.ErrEpoch || got != (api.Key{}) {
			t.Errorf("At %d, Key(%d): %x, %d", x.asked, x.epoch-1, got, e)
		}
		if x.epoch == end {
			continue
		}
		if e := k.Advance(); e != api.OK || k.Epoch() != x.epoch+1 {
			t.Errorf("At %d: Advance %d, epoch %d", x.asked, e, k.Epoch())
		}
		if got, e := k.Key(x.epoch); e != api.OK || got != first {
			t.Errorf("At %d, one on, Key(%d): %x, %d", x.asked, x.epoch, got, e)
		}
		if got, e := k.Key(x.epoch - 1); e != api.ErrEpoch || got != (api.Key{}) {
			t.Errorf("At %d, one on, Key(%d): %x, %d", x.asked, x.epoch-1, got, e)
		}
	}
}

// P15.1: the same, with all that is told, and some epochs on.
func TestAtAndOn(t *testing.T) {
	for i, x := range named {
		p := pairAt(t, drawn(uint64(200+i)), x.asked, x.epoch)
		p.look()
		p.advances(5)
	}
	for _, secret := range roots() {
		for _, epoch := range []int{0, 1, 77, end - 1, end} {
			p := pairAt(t, secret, epoch, epoch)
			p.look()
			p.advances(3)
		}
	}
}

// P15.1: which number an epoch has makes no difference to its key, nor to those behind it: its secret alone does.
func TestNumberIsNotInTheKey(t *testing.T) {
	secret := drawn(21)
	for _, epoch := range []int{0, 1, 2, 255, 256, 40000, end - 3} {
		k := keys.At(secret, epoch)
		for many := range 4 {
			if got, e := k.Key(epoch + many); e != api.OK || got != kdf.Of(on(secret, many)) {
				t.Errorf("At %d, %d on: %x, %d", epoch, many, got, e)
			}
			k.Advance()
		}
	}
}

// P15.1: At with an epoch's secret goes on as New does with the root, but that the key of the epoch ahead is missing at first.
func TestAtGoesOnAsNew(t *testing.T) {
	root := drawn(22)
	for epoch := range 40 {
		p := newPair(t, root).advances(epoch)
		k := keys.At(on(root, epoch), epoch)
		if _, e := k.Key(epoch - 1); e != api.ErrEpoch {
			t.Errorf("At %d: the key of the one ahead: %d", epoch, e)
		}
		p.advance()
		k.Advance()
		(&pair{t: t, k: k, m: p.m}).advances(4)
	}
}

// P15.1: one ahead of the last epoch there is a next one, and in the last one none. An Advance that is refused changes nothing.
func TestEnd(t *testing.T) {
	secret := drawn(23)
	k := keys.At(secret, end-1)
	want := kdf.Of(kdf.Later(secret))
	if got, e := k.Next(); e != api.OK || got != want {
		t.Errorf("one ahead of the end: %x, %d is next", got, e)
	}
	if e := k.Advance(); e != api.OK || k.Epoch() != end {
		t.Errorf("to the end: %d, epoch %d", e, k.Epoch())
	}
	for range 5 {
		if got, e := k.Next(); e != api.ErrExhausted || got != (api.Key{}) {
			t.Errorf("at the end: %x, %d is next", got, e)
		}
		if e := k.Advance(); e != api.ErrExhausted || k.Epoch() != end {
			t.Errorf("beyond the end: %d, epoch %d", e, k.Epoch())
		}
		if got, e := k.Key(end); e != api.OK || got != want {
			t.Errorf("Key(%d): %x, %d", end, got, e)
		}
		if got, e := k.Key(end - 1); e != api.OK || got != kdf.Of(secret) {
			t.Errorf("Key(%d): %x, %d", end-1, got, e)
		}
		for _, epoch := range []int{end + 1, 0, -1, end - 2} {
			if got, e := k.Key(epoch); e != api.ErrEpoch || got != (api.Key{}) {
				t.Errorf("Key(%d): %x, %d", epoch, got, e)
			}
		}
	}
}

// P15.1: keys that began with the last epoch have that one's key alone, however often they are to go on.
func TestBeginAtEnd(t *testing.T) {
	for _, asked := range []int{end, end + 1, 1 << 32, math.MaxInt} {
		p := pairAt(t, drawn(24), asked, end)
		p.look()
		p.advances(5)
	}
}

// P15.1: from the first epoch to the last one, no epoch is left out, and no key comes twice.
func TestToTheEnd(t *testing.T) {
	p := newPair(t, drawn(25))
	seen := map[api.Key]int{}
	for epoch := range end + 1 {
		got, e := p.k.Key(epoch)
		if e != api.OK || p.k.Epoch() != epoch {
			t.Fatalf("%d: epoch %d, %d", epoch, p.k.Epoch(), e)
		}
		if other, ok := seen[got]; ok {
			t.Fatalf("epochs %d and %d: both %x", other, epoch, got)
		}
		seen[got] = epoch
		if epoch%997 == 0 {
			p.glance()
		}
		p.advance() // at the end it is refused
	}
	p.look()
	p.advances(3)
}

// P15.1: Key, Next and Epoch change nothing, however often they are asked, whatever they answer.
func TestAskingChangesNothing(t *testing.T) {
	for name, p := range histories(t) {
		kept := *p.k
		for range 10 {
			p.k.Epoch()
			p.k.Next()
			for _, epoch := range append(edges(), p.m.epoch, p.m.epoch-1, p.m.epoch-2, p.m.epoch+1) {
				p.k.Key(epoch)
			}
			p.k.Clone()
		}
		if *p.k != kept {
			t.Errorf("%s: it is another one", name)
		}
		p.look()
		p.advances(3)
	}
}

// R2: no key is told beside an error, and nothing changes by what is refused.
func TestNothingBesideErrors(t *testing.T) {
	for name, p := range histories(t) {
		kept := *p.k
		for _, epoch := range append(edges(), p.m.epoch-2, p.m.epoch-1, p.m.epoch, p.m.epoch+1) {
			if got, e := p.k.Key(epoch); (e == api.OK) == (got == api.Key{}) || e != api.OK && e != api.ErrEpoch {
				t.Errorf("%s: Key(%d): %x, %d", name, epoch, got, e)
			}
		}
		if got, e := p.k.Next(); (e == api.OK) == (got == api.Key{}) || e != api.OK && e != api.ErrExhausted {
			t.Errorf("%s: Next: %x, %d", name, got, e)
		}
		if e := p.k.Advance(); e != api.OK && *p.k != kept {
			t.Errorf("%s: an Advance that was refused: %d", name, e)
		}
	}
}
