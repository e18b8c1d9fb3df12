package sender_test

import (
	"math"
	"math/rand/v2"
	"reflect"
	"slices"
	"testing"

	"airshare/api"
	"airshare/sender"
)

// The limits, written out.
const (
	mostWindow = 64
	mostTries  = 16
	numbers    = 65536
)

// far are numbers that are far from nearly all that is permitted; some of their lower bits are those of numbers that are permitted.
var far = []int{-65536, -65535, -128, -16, 128, 256, 257, 1 << 16, 1<<16 + 1, 1<<17 + 1, 1 << 31, 1 << 32, 1<<32 + 1, -1 << 32, 1 - 1<<32, 1<<48 + 1, 1<<56 + 1, math.MaxInt, math.MaxInt - 1, math.MinInt, math.MinInt + 1}

// starts are numbers from which a test may count, mostly so that its numbers pass the end of all numbers or the half.
var starts = []int{0, 1, 63, 64, 100, 32703, 32740, 32767, 32768, 65471, 65472, 65500, 65530, 65533, 65534, 65535}

// entry is a packet of a model.
type entry struct {
	id, tries int
	gone      bool
}

// model is a second wording of the chapter: it counts numbers without an end, and keeps each packet when it is gone, too.
type model struct {
	window, tries int
	// packets are in the order of their counts, of which the first one is start.
	packets []entry
	start   int
}

// seq returns the sequence number of the packet at an index, or of a later one.
func (m *model) seq(i int) int {
	return (m.start + i) % numbers
}

// base returns the index of the oldest packet that is not gone, or of the next one.
func (m *model) base() int {
	i := 0
	for i < len(m.packets) && m.packets[i].gone {
		i++
	}
	return i
}

// next returns the next sequence number.
func (m *model) next() int {
	return m.seq(len(m.packets))
}

func (m *model) open() bool {
	return m.base()+m.window > len(m.packets)
}

// at returns the packet with a sequence number, or nil.
func (m *model) at(seq int) *entry {
	for i := m.base(); i < len(m.packets); i++ {
		if p := &m.packets[i]; !p.gone && m.seq(i) == seq {
			return p
		}
	}
	return nil
}

func (m *model) Assign(id int) (int, api.Errno) {
	switch {
	case id <= 0:
		return 0, api.ErrInvalid
	case !m.open():
		return 0, api.ErrFull
	}
	seq := m.next()
	m.packets = append(m.packets, entry{id: id})
	m.forget()
	return seq, api.OK
}

// forget lets go of packets that are gone, now and then, so that long tests do not take long to find the others.
func (m *model) forget() {
	if base := m.base(); base > 500 {
		m.packets = slices.Clone(m.packets[base:])
		m.start += base
	}
}

func (m *model) Send(seq int) (int, api.Errno) {
	p := m.at(seq)
	switch {
	case p == nil:
		return 0, api.ErrNotFound
	case p.tries >= m.tries:
		return 0, api.ErrState
	}
	p.tries++
	return p.tries, api.OK
}

func (m *model) Drop(seq int) (int, api.Errno) {
	p := m.at(seq)
	if p == nil {
		return 0, api.ErrNotFound
	}
	p.gone = true
	return p.id, api.OK
}

// Ack looks for the place that the base of the bitmap means, from the oldest packet to the next one.
func (m *model) Ack(b api.Bitmap) []int {
	base := m.base()
	for first := base; first <= len(m.packets); first++ {
		if m.seq(first) == b.Base {
			return m.ackFrom(base, first, b.Bits)
		}
	}
	return nil
}

// ackFrom acknowledges the packets from base on that are before first or have a bit, of which the lowest one belongs to first.
func (m *model) ackFrom(base, first int, bits uint64) []int {
	var ids []int
	for i := base; i < len(m.packets); i++ {
		p := &m.packets[i]
		if !p.gone && (i < first || i < first+64 && bits/(1<<(i-first))%2 == 1) {
			p.gone = true
			ids = append(ids, p.id)
		}
	}
	return ids
}

// list returns the pending packets with at least this many transmissions.
func (m *model) list(tries int) []api.Sent {
	var out []api.Sent
	for i, p := range m.packets {
		if !p.gone && p.tries >= tries {
			out = append(out, api.Sent{Seq: m.seq(i), ID: p.id, Tries: p.tries})
		}
	}
	return out
}

// Kinds of steps.
const (
	assign = iota
	send
	ack
	drop
)

// step is a call of a method that may change a sender, with its argument.
type step struct {
	kind int
	n    int
	m    api.Bitmap
}

// result is what such a call returns.
type result struct {
	n    int
	list []int
	err  api.Errno
}

// changer is what can take a step: a sender or a model.
type changer interface {
	Assign(id int) (int, api.Errno)
	Send(seq int) (int, api.Errno)
	Ack(m api.Bitmap) []int
	Drop(seq int) (int, api.Errno)
}

func take(c changer, x step) (out result) {
	switch x.kind {
	case assign:
		out.n, out.err = c.Assign(x.n)
	case send:
		out.n, out.err = c.Send(x.n)
	case ack:
		out.list = c.Ack(x.m)
	default:
		out.n, out.err = c.Drop(x.n)
	}
	return out
}

// same reports whether two results are equal, where no list is the same as an empty one.
func (r result) same(other result) bool {
	return r.n == other.n && r.err == other.err && slices.Equal(r.list, other.list)
}

// pair is a sender beside a model with the same calls.
type pair struct {
	s *sender.Sender
	m *model
}

func newPair(t *testing.T, window, tries int) pair {
	t.Helper()
	s, err := sender.New(window, tries)
	if s == nil || err != api.OK {
		t.Fatalf("New(%d, %d) = %v, %d", window, tries, s, err)
	}
	return pair{s, &model{window: window, tries: tries}}
}

// newPairAt returns a pair without pending packets whose next number is start.
func newPairAt(t *testing.T, window, tries, start int) pair {
	t.Helper()
	p := newPair(t, window, tries)
	p.wind(t, start)
	return p
}

// wind lets packets go through the sender of a pair without pending packets until its next number is start, where the model begins anew.
func (p pair) wind(t *testing.T, start int) {
	t.Helper()
	for seq := p.m.next(); seq != start; seq = after(seq, 1) {
		if got, err := p.s.Assign(1); got != seq || err != api.OK {
			t.Fatalf("Assign(1) = %d, %d, want %d, 0", got, err, seq)
		}
		if id, err := p.s.Drop(seq); id != 1 || err != api.OK {
			t.Fatalf("Drop(%d) = %d, %d, want 1, 0", seq, id, err)
		}
	}
	p.m.packets, p.m.start = nil, start
	p.check(t, start)
}

// run takes a step on both and returns the result, which must be the same.
func (p pair) run(t *testing.T, x step) result {
	t.Helper()
	got, want := take(p.s, x), take(p.m, x)
	if !got.same(want) {
		t.Fatalf("%+v: %+v, want %+v", x, got, want)
	}
	return got
}

// want takes a step on both, whose result must be the one that is given.
func (p pair) want(t *testing.T, x step, want result) {
	t.Helper()
	if got := p.run(t, x); !got.same(want) {
		t.Fatalf("%+v: %+v, want %+v", x, got, want)
	}
}

// nothing takes a step on both, which must have this error and change nothing that can be seen.
func (p pair) nothing(t *testing.T, x step, err api.Errno) {
	t.Helper()
	was := [...]any{p.s.Open(), p.s.Base(), p.s.Pending(), p.s.Exhausted()}
	p.want(t, x, result{err: err})
	p.check(t, x)
	if is := [...]any{p.s.Open(), p.s.Base(), p.s.Pending(), p.s.Exhausted()}; !reflect.DeepEqual(is, was) {
		t.Fatalf("%+v: %v has become %v", x, was, is)
	}
}

// assign gives numbers to n packets with the ids from id on.
func (p pair) assign(t *testing.T, n, id int) {
	t.Helper()
	for i := range n {
		if got := p.run(t, step{kind: assign, n: id + i}); got.err != api.OK {
			t.Fatalf("Assign(%d) = %d, %d", id+i, got.n, got.err)
		}
	}
}

// room gives numbers to packets until the window is closed, and returns how many there were.
func (p pair) room(t *testing.T) int {
	t.Helper()
	for n := 0; ; n++ {
		if !p.s.Open() {
			p.nothing(t, step{kind: assign, n: 1000}, api.ErrFull)
			return n
		}
		p.assign(t, 1, 1000+n)
	}
}

// clear acknowledges all packets.
func (p pair) clear(t *testing.T) {
	t.Helper()
	p.run(t, step{kind: ack, m: api.Bitmap{Base: p.m.next()}})
	p.check(t, "cleared")
	if list := p.s.Pending(); len(list) != 0 {
		t.Fatalf("Pending() = %v, want none", list)
	}
}

// after returns the number that is this many steps after seq.
func after(seq, steps int) int {
	return ((seq+steps)%numbers + numbers) % numbers
}

// check checks all that can be seen of a sender without a change, and the chapter's consequences.
func (p pair) check(t *testing.T, what any) {
	t.Helper()
	if got, want := p.s.Open(), p.m.open(); got != want {
		t.Fatalf("%+v: Open() = %t, want %t", what, got, want)
	}
	base := p.s.Base()
	if want := p.m.seq(p.m.base()); base != want {
		t.Fatalf("%+v: Base() = %d, want %d", what, base, want)
	}
	list := p.s.Pending()
	if want := p.m.list(0); !slices.Equal(list, want) {
		t.Fatalf("%+v: Pending() = %v, want %v", what, list, want)
	}
	if got, want := p.s.Exhausted(), p.m.list(p.m.tries); !slices.Equal(got, want) {
		t.Fatalf("%+v: Exhausted() = %v, want %v", what, got, want)
	}
	least := 0
	for _, x := range list {
		steps := after(x.Seq, -base)
		if steps < least || steps >= p.m.window {
			t.Fatalf("%+v: with the base %d and the window %d: %v", what, base, p.m.window, list)
		}
		least = steps + 1
	}
}

// TestExamples checks the chapter's examples.
func TestExamples(t *testing.T) {
	for _, start := range starts {
		first := newPairAt(t, 2, 1, start)
		first.want(t, step{kind: assign, n: 7}, result{n: start})
		first.want(t, step{kind: assign, n: 8}, result{n: after(start, 1)})
		first.nothing(t, step{kind: assign, n: 9}, api.ErrFull)
		first.want(t, step{kind: ack, m: api.Bitmap{Base: after(start, 1)}}, result{list: []int{7}})
		first.want(t, step{kind: assign, n: 9}, result{n: after(start, 2)})
		second := newPairAt(t, 2, 1, start)
		second.assign(t, 2, 7)
		second.want(t, step{kind: ack, m: api.Bitmap{Base: start, Bits: 0b10}}, result{list: []int{8}})
		second.nothing(t, step{kind: assign, n: 9}, api.ErrFull)
	}
}

// TestNew checks P16.1: what a new sender tells and how far its limits go, for all windows and tries, and the error.
func TestNew(t *testing.T) {
	values := slices.Clone(far)
	for n := -3; n <= 70; n++ {
		values = append(values, n)
	}
	for _, window := range values {
		for _, tries := range values {
			if window < 1 || window > mostWindow || tries < 1 || tries > mostTries {
				if s, err := sender.New(window, tries); s != nil || err != api.ErrInvalid {
					t.Errorf("New(%d, %d) = %v, %d, want nil, %d", window, tries, s, err, api.ErrInvalid)
				}
				continue
			}
			checkLimits(t, window, tries)
		}
	}
}

func checkLimits(t *testing.T, window, tries int) {
	t.Helper()
	p := newPair(t, window, tries)
	p.check(t, "new")
	if base, open := p.s.Base(), p.s.Open(); base != 0 || !open || len(p.s.Pending())+len(p.s.Exhausted()) != 0 {
		t.Errorf("New(%d, %d): the base is %d, Open() = %t", window, tries, base, open)
	}
	p.nothing(t, step{kind: send}, api.ErrNotFound)
	p.nothing(t, step{kind: drop}, api.ErrNotFound)
	p.nothing(t, step{kind: ack, m: api.Bitmap{Bits: math.MaxUint64}}, api.OK)
	if n := p.room(t); n != window {
		t.Errorf("New(%d, %d): room for %d packets", window, tries, n)
	}
	for n := range tries {
		p.want(t, step{kind: send}, result{n: n + 1})
	}
	p.nothing(t, step{kind: send}, api.ErrState)
	p.check(t, "full")
}

// TestAssign checks in P16.2 which ids are permitted, that an id that is not is the first error, and that neither error takes a number.
func TestAssign(t *testing.T) {
	for _, start := range starts {
		p := newPairAt(t, 6, 2, start)
		bad := append([]int{0, -1, -2}, slices.DeleteFunc(slices.Clone(far), func(n int) bool { return n > 0 })...)
		for i, id := range []int{1, math.MaxInt, 5, 5, 2, 1} {
			for _, n := range bad {
				p.nothing(t, step{kind: assign, n: n}, api.ErrInvalid)
			}
			p.want(t, step{kind: assign, n: id}, result{n: after(start, i)})
			p.check(t, id)
		}
		for _, n := range bad {
			p.nothing(t, step{kind: assign, n: n}, api.ErrInvalid)
		}
		p.nothing(t, step{kind: assign, n: 1}, api.ErrFull)
		p.nothing(t, step{kind: assign, n: math.MaxInt}, api.ErrFull)
		p.want(t, step{kind: ack, m: api.Bitmap{Base: after(start, 6)}}, result{list: []int{1, math.MaxInt, 5, 5, 2, 1}})
		p.want(t, step{kind: assign, n: 3}, result{n: after(start, 6)})
	}
}

// TestNumbers checks that numbers are given in order, more than twice around, with windows that are kept as full as may be.
func TestNumbers(t *testing.T) {
	for _, window := range []int{1, 2, 7, 63, 64} {
		p := newPair(t, window, 1)
		for i := range 2*numbers + 200 {
			if i >= window {
				p.want(t, step{kind: drop, n: (i - window) % numbers}, result{n: i - window + 1})
			}
			p.want(t, step{kind: assign, n: i + 1}, result{n: i % numbers})
			if i%numbers < 70 || i%numbers > numbers-70 || i%97 == 0 {
				p.check(t, i)
			}
		}
		p.clear(t)
	}
}

// TestWindow checks Open in P16.2 for all windows: it depends on the oldest packet alone, not on the number of packets.
func TestWindow(t *testing.T) {
	for window := 1; window <= mostWindow; window++ {
		// The second sender passes the end of all numbers on its way.
		for _, start := range []int{0, numbers - 1 - window*window/2} {
			p := newPairAt(t, window, 1, start)
			for oldest := range window + 1 {
				p.assign(t, window, 1)
				first := p.s.Base()
				// The packets are dropped from the last one on, so that nothing opens before the oldest one is dropped.
				for i := window - 1; i >= 0; i-- {
					if p.s.Open() {
						t.Fatalf("window %d: open with packet %d", window, i)
					}
					if i != oldest {
						p.want(t, step{kind: drop, n: after(first, i)}, result{n: i + 1})
					}
				}
				if got := p.room(t); got != oldest {
					t.Fatalf("window %d: room for %d packets, want %d", window, got, oldest)
				}
				p.check(t, oldest)
				p.clear(t)
			}
		}
	}
}

// TestSend checks P16.3: transmissions are counted for each packet alone, up to all tries.
func TestSend(t *testing.T) {
	for tries := 1; tries <= mostTries; tries++ {
		for _, start := range starts {
			p := newPairAt(t, 4, tries, start)
			p.assign(t, 4, 10)
			for n := 1; n <= tries; n++ {
				for _, i := range []int{2, 0, 3} {
					p.want(t, step{kind: send, n: after(start, i)}, result{n: n})
					p.check(t, n)
				}
			}
			for _, i := range []int{2, 0, 3, 2} {
				p.nothing(t, step{kind: send, n: after(start, i)}, api.ErrState)
			}
			want := []api.Sent{{Seq: after(start, 0), ID: 10, Tries: tries}, {Seq: after(start, 2), ID: 12, Tries: tries}, {Seq: after(start, 3), ID: 13, Tries: tries}}
			if got := p.s.Exhausted(); !slices.Equal(got, want) {
				t.Errorf("Exhausted() = %v, want %v", got, want)
			}
			// The next packets begin at 0, whatever was counted before.
			p.clear(t)
			p.assign(t, 4, 20)
			p.want(t, step{kind: send, n: after(start, 6)}, result{n: 1})
			p.check(t, "the next ones")
		}
	}
}

// TestNotFound checks ErrNotFound in P16.3 and P16.5: for numbers that are not given yet, that are not pending any more, and that are no sequence numbers.
func TestNotFound(t *testing.T) {
	for _, start := range starts {
		p := newPairAt(t, 5, 1, start)
		p.assign(t, 5, 10)
		p.want(t, step{kind: send, n: after(start, 3)}, result{n: 1})
		p.want(t, step{kind: drop, n: after(start, 1)}, result{n: 11})
		p.want(t, step{kind: ack, m: api.Bitmap{Base: start, Bits: 0b101}}, result{list: []int{10, 12}})
		there := []int{after(start, 3), after(start, 4)}
		var none []int
		for steps := -70; steps < 140; steps++ {
			none = append(none, after(start, steps), start+steps)
		}
		for _, seq := range there {
			none = append(none, seq+numbers, seq-numbers, -seq, ^seq, seq+1<<32, seq+math.MinInt, after(seq, numbers/2))
		}
		none = append(none, far...)
		for _, seq := range none {
			if !slices.Contains(there, seq) {
				p.nothing(t, step{kind: send, n: seq}, api.ErrNotFound)
				p.nothing(t, step{kind: drop, n: seq}, api.ErrNotFound)
			}
		}
		p.nothing(t, step{kind: send, n: after(start, 3)}, api.ErrState)
		p.want(t, step{kind: drop, n: after(start, 3)}, result{n: 13})
		p.nothing(t, step{kind: send, n: after(start, 3)}, api.ErrNotFound)
		p.nothing(t, step{kind: drop, n: after(start, 3)}, api.ErrNotFound)
	}
}

// TestAck checks P16.4 with bitmaps that are written out, for five packets with the ids 10 to 14 of which 12 is dropped first.
func TestAck(t *testing.T) {
	for _, start := range starts {
		for _, test := range []struct {
			base int
			bits uint64
			want []int
		}{
			{0, 0, nil},
			{0, 0b1, []int{10}},
			{0, 0b10, []int{11}},
			{0, 0b100, nil},
			{0, 0b11000, []int{13, 14}},
			{0, 0b11111, []int{10, 11, 13, 14}},
			{0, math.MaxUint64, []int{10, 11, 13, 14}},
			{0, 0b11111 << 5, nil},
			{1, 0, []int{10}},
			{1, 0b1000, []int{10, 14}},
			{2, 0, []int{10, 11}},
			{3, 0, []int{10, 11}},
			{3, 0b10, []int{10, 11, 14}},
			{4, 0, []int{10, 11, 13}},
			{4, 0b1, []int{10, 11, 13, 14}},
			{5, 0, []int{10, 11, 13, 14}},
			{5, math.MaxUint64, []int{10, 11, 13, 14}},
			{6, 0, nil},
			{6, math.MaxUint64, nil},
			{-1, math.MaxUint64, nil},
			{-1, 0, nil},
			{numbers / 2, math.MaxUint64, nil},
			{numbers/2 - 1, 0, nil},
			{numbers/2 + 5, 0, nil},
		} {
			p := newPairAt(t, 9, 1, start)
			p.assign(t, 5, 10)
			p.want(t, step{kind: drop, n: after(start, 2)}, result{n: 12})
			p.want(t, step{kind: ack, m: api.Bitmap{Base: after(start, test.base), Bits: test.bits}}, result{list: test.want})
			p.check(t, test)
			// Bits of numbers that were not given yet are not kept for them.
			p.assign(t, 2, 20)
			p.check(t, "the next ones")
		}
	}
}

// TestAckBase checks in P16.4 which bases a bitmap may have: it tries all sequence numbers and others with senders of each kind of size.
func TestAckBase(t *testing.T) {
	for _, start := range []int{0, 3, 32760, 65500, 65535} {
		for _, n := range []int{0, 1, 2, 5, 63, 64} {
			p := newPairAt(t, mostWindow, 1, start)
			p.assign(t, n, 1)
			permitted := map[int]bool{}
			for steps := range n + 1 {
				permitted[after(start, steps)] = true
			}
			for base := -100; base < numbers+100; base++ {
				if !permitted[base] {
					p.want(t, step{kind: ack, m: api.Bitmap{Base: base, Bits: math.MaxUint64}}, result{})
				}
			}
			p.check(t, n)
			for _, base := range append([]int{start + numbers, start - numbers, start + 1<<32}, far...) {
				for _, bits := range []uint64{0, 1, math.MaxUint64} {
					p.nothing(t, step{kind: ack, m: api.Bitmap{Base: base, Bits: bits}}, api.OK)
				}
			}
			for steps := range n + 1 {
				p.clear(t)
				p.wind(t, start)
				p.assign(t, n, 1)
				if got := p.run(t, step{kind: ack, m: api.Bitmap{Base: after(start, steps)}}); len(got.list) != steps {
					t.Fatalf("%d packets: a base %d steps after the oldest one acknowledges %v", n, steps, got.list)
				}
				p.check(t, steps)
			}
		}
	}
}

// TestAckOld checks that a bitmap that was made before the oldest packets were acknowledged or dropped does nothing.
func TestAckOld(t *testing.T) {
	for _, start := range starts {
		p := newPairAt(t, 10, 1, start)
		p.assign(t, 10, 1)
		p.want(t, step{kind: drop, n: start}, result{n: 1})
		p.nothing(t, step{kind: ack, m: api.Bitmap{Base: start, Bits: 0b1110}}, api.OK)
		p.want(t, step{kind: ack, m: api.Bitmap{Base: after(start, 1), Bits: 0b101}}, result{list: []int{2, 4}})
		p.nothing(t, step{kind: ack, m: api.Bitmap{Base: after(start, 1), Bits: math.MaxUint64}}, api.OK)
		// The number of a packet that is gone may be the base of a bitmap if it is after the oldest one.
		p.want(t, step{kind: ack, m: api.Bitmap{Base: after(start, 3), Bits: 0b10}}, result{list: []int{3, 5}})
		p.check(t, "old")
	}
}

// TestAckSmall checks P16.4 for a sender with four packets around the end of all numbers: each set of them dropped, each base around them, and each set of bits.
func TestAckSmall(t *testing.T) {
	const given = 4
	p := newPairAt(t, given+1, 1, numbers-2*given)
	for dropped := range 1 << given {
		for steps := -2; steps <= given+2; steps++ {
			for bits := range 1 << (given + 1) {
				if next := p.m.next(); next > given && next < numbers-2*given {
					p.wind(t, numbers-2*given)
				}
				start := p.m.next()
				p.assign(t, given, 1)
				for i := range given {
					if dropped>>i&1 == 1 {
						p.run(t, step{kind: drop, n: after(start, i)})
					}
				}
				p.run(t, step{kind: ack, m: api.Bitmap{Base: after(start, steps), Bits: uint64(bits)}})
				p.check(t, bits)
				p.clear(t)
			}
		}
	}
}

// TestAckLarge checks P16.4 for a full window of 64 packets: each base with each bit alone, set or clear, and each base with some bits around the end of all numbers.
func TestAckLarge(t *testing.T) {
	checkFull := func(start, steps int, bits uint64) {
		p := newPairAt(t, mostWindow, 1, start)
		p.assign(t, mostWindow, 1)
		p.run(t, step{kind: ack, m: api.Bitmap{Base: after(start, steps), Bits: bits}})
		p.check(t, bits)
	}
	for steps := range mostWindow + 1 {
		for bit := range 64 {
			checkFull(0, steps, 1<<bit)
			checkFull(0, steps, math.MaxUint64^1<<bit)
		}
		checkFull(65480, steps, 0x8000f000f0a10003)
		checkFull(65535, steps, 0x8000f000f0a10003)
	}
}

// TestDrop checks P16.5 for all orders of dropping four packets: the ids, the base and the room after each of them.
func TestDrop(t *testing.T) {
	for order := range 256 {
		var list []int
		for i := range 4 {
			if n := order >> (2 * i) & 3; !slices.Contains(list, n) {
				list = append(list, n)
			}
		}
		if len(list) < 4 {
			continue
		}
		for _, start := range []int{0, 65533, 65534} {
			p := newPairAt(t, 4, 2, start)
			p.assign(t, 4, 10)
			left := []int{0, 1, 2, 3, 4}
			for _, n := range list {
				p.run(t, step{kind: send, n: after(start, n)})
				p.want(t, step{kind: drop, n: after(start, n)}, result{n: 10 + n})
				p.check(t, list)
				left = slices.DeleteFunc(left, func(i int) bool { return i == n })
				if got := p.s.Base(); got != after(start, left[0]) {
					t.Fatalf("Base() = %d without %v from %d on", got, list, start)
				}
				p.nothing(t, step{kind: drop, n: after(start, n)}, api.ErrNotFound)
			}
			p.want(t, step{kind: assign, n: 20}, result{n: after(start, 4)})
		}
	}
}

// TestLists checks Pending and Exhausted in P16.5 for all counts of transmissions of four packets, of which each may be gone.
func TestLists(t *testing.T) {
	for _, tries := range []int{1, 2, 3} {
		for counts := range 256 {
			p := newPair(t, 4, tries)
			p.assign(t, 4, 10)
			var all, exhausted []api.Sent
			for i := range 4 {
				count := counts >> (2 * i) & 3
				for range min(count, tries) {
					p.run(t, step{kind: send, n: i})
				}
				if count > tries {
					p.run(t, step{kind: drop, n: i})
					continue
				}
				x := api.Sent{Seq: i, ID: 10 + i, Tries: count}
				all = append(all, x)
				if count == tries {
					exhausted = append(exhausted, x)
				}
			}
			p.check(t, counts)
			if got := p.s.Pending(); !slices.Equal(got, all) {
				t.Errorf("Pending() = %v, want %v", got, all)
			}
			if got := p.s.Exhausted(); !slices.Equal(got, exhausted) {
				t.Errorf("Exhausted() = %v, want %v", got, exhausted)
			}
		}
	}
}

// TestStopAndWait checks that with a window of 1 there is one packet at a time, whatever ends it.
func TestStopAndWait(t *testing.T) {
	p := newPairAt(t, 1, 2, numbers-50)
	for i := range 100 {
		seq := after(numbers-50, i)
		p.want(t, step{kind: assign, n: 5 + i}, result{n: seq})
		p.nothing(t, step{kind: assign, n: 5}, api.ErrFull)
		p.want(t, step{kind: send, n: seq}, result{n: 1})
		p.nothing(t, step{kind: ack, m: api.Bitmap{Base: seq, Bits: 0b10}}, api.OK)
		p.nothing(t, step{kind: ack, m: api.Bitmap{Base: after(seq, -1), Bits: 0b11}}, api.OK)
		switch i % 3 {
		case 0:
			p.want(t, step{kind: ack, m: api.Bitmap{Base: after(seq, 1)}}, result{list: []int{5 + i}})
		case 1:
			p.want(t, step{kind: ack, m: api.Bitmap{Base: seq, Bits: 1}}, result{list: []int{5 + i}})
		default:
			p.want(t, step{kind: drop, n: seq}, result{n: 5 + i})
		}
		p.check(t, i)
	}
}

// TestShort runs all sequences of five steps on senders with small windows, and all of three steps at the end of all numbers.
func TestShort(t *testing.T) {
	for _, c := range []struct{ window, tries, start, length int }{{1, 1, 0, 5}, {2, 1, 0, 5}, {3, 2, 0, 5}, {3, 2, 65535, 3}} {
		one := after(c.start, 1)
		steps := [9]step{
			{kind: assign, n: 7}, {kind: assign, n: 3}, {kind: send, n: c.start}, {kind: send, n: one}, {kind: drop, n: c.start}, {kind: drop, n: one},
			{kind: ack, m: api.Bitmap{Base: c.start, Bits: 0b10}}, {kind: ack, m: api.Bitmap{Base: one}}, {kind: ack, m: api.Bitmap{Base: after(c.start, 2), Bits: 1}},
		}
		sequences := 1
		for range c.length {
			sequences *= len(steps)
		}
		for sequence := range sequences {
			p := newPairAt(t, c.window, c.tries, c.start)
			rest := sequence
			for range c.length {
				p.run(t, steps[rest%len(steps)])
				rest /= len(steps)
			}
			p.check(t, sequence)
		}
	}
}

// randomNumber returns a sequence number around those of the pending packets of a model, or now and then any number.
func randomNumber(source *rand.Rand, m *model) int {
	if source.IntN(20) == 0 {
		return append([]int{source.IntN(numbers), -1, numbers}, far...)[source.IntN(3+len(far))]
	}
	base := m.base()
	return after(m.seq(base), source.IntN(len(m.packets)-base+2)-source.IntN(2))
}

// randomStep returns a step for a sender with the calls of a model.
func randomStep(source *rand.Rand, m *model) step {
	switch n := source.IntN(100); {
	case n < 50:
		return step{kind: assign, n: max(0, source.IntN(300)-2)}
	case n < 80:
		return step{kind: send, n: randomNumber(source, m)}
	case n < 88:
		return step{kind: drop, n: randomNumber(source, m)}
	}
	// A bit is set with a probability of an eighth, a half or seven eighths.
	bits, more, most := source.Uint64(), source.Uint64(), source.Uint64()
	switch source.IntN(3) {
	case 0:
		bits &= more & most
	case 1:
		bits |= more | most
	}
	if source.IntN(3) > 0 {
		// Mostly a base near the oldest packet, so that windows get full.
		return step{kind: ack, m: api.Bitmap{Base: after(m.seq(m.base()), source.IntN(3)-1), Bits: bits << source.IntN(20)}}
	}
	return step{kind: ack, m: api.Bitmap{Base: randomNumber(source, m), Bits: bits}}
}

// TestRandom compares senders with the model, step by step, and checks that each kind of result comes up.
func TestRandom(t *testing.T) {
	source := rand.New(rand.NewPCG(161, 1))
	counts := map[[2]int]int{}
	removed, ignored := 0, 0
	for _, window := range []int{1, 2, 3, 4, 8, 17, 32, 63, 64} {
		for _, tries := range []int{1, 2, 3, 7, 16} {
			for _, start := range []int{0, numbers - 200, numbers/2 - 100} {
				p := newPairAt(t, window, tries, start)
				for range 1000 {
					x := randomStep(source, p.m)
					got := p.run(t, x)
					counts[[2]int{x.kind, int(got.err)}]++
					if x.kind == ack && len(got.list) == 0 {
						ignored++
					}
					removed += len(got.list)
					p.check(t, x)
				}
			}
		}
	}
	for kind, errs := range [][]api.Errno{
		assign: {api.OK, api.ErrInvalid, api.ErrFull},
		send:   {api.OK, api.ErrNotFound, api.ErrState},
		ack:    {api.OK},
		drop:   {api.OK, api.ErrNotFound},
	} {
		for _, err := range errs {
			if counts[[2]int{kind, int(err)}] < 500 {
				t.Errorf("steps of the kind %d had the result %d only %d times", kind, err, counts[[2]int{kind, int(err)}])
			}
		}
	}
	if removed < 1000 || ignored < 1000 {
		t.Errorf("%d packets were acknowledged, and %d bitmaps acknowledged none", removed, ignored)
	}
}

// TestRead checks that the methods that read change nothing.
func TestRead(t *testing.T) {
	p := newPairAt(t, 4, 2, 65534)
	p.assign(t, 3, 10)
	p.want(t, step{kind: send, n: 65535}, result{n: 1})
	for range 5 {
		p.check(t, "read")
	}
	p.want(t, step{kind: send, n: 65535}, result{n: 2})
	p.want(t, step{kind: assign, n: 13}, result{n: 1})
	p.nothing(t, step{kind: assign, n: 14}, api.ErrFull)
}

// TestRepeated checks P2: the results depend only on the calls made before on the same sender, whatever is done with another one in between.
func TestRepeated(t *testing.T) {
	source := rand.New(rand.NewPCG(162, 1))
	randomSteps := func() (out []step) {
		m := &model{window: 10, tries: 3}
		for range 1000 {
			x := randomStep(source, m)
			take(m, x)
			out = append(out, x)
		}
		return out
	}
	steps := randomSteps()
	run := func(between func(i int)) (out []any) {
		s := newPair(t, 10, 3).s
		for i, x := range steps {
			between(i)
			out = append(out, take(s, x), s.Open(), s.Base(), s.Pending(), s.Exhausted())
		}
		return out
	}
	want := run(func(int) {})
	other := newPair(t, 20, 5).s
	for range 3 {
		noise := randomSteps()
		if got := run(func(i int) { take(other, noise[i]) }); !reflect.DeepEqual(got, want) {
			t.Error("the results depend on another sender")
		}
	}
}

// spoil overwrites a list and what may lie behind its end.
func spoil[T any](list []T, with T) {
	for i := range list {
		list[i] = with
	}
	for i := range list {
		_ = append(list[:i], with)
	}
	_ = append(list, with, with, with)
	_ = append(list[:0], with, with, with)
}

// TestOwnLists checks that the results of Pending, Exhausted and Ack share no memory with each other, with later results or with the sender.
func TestOwnLists(t *testing.T) {
	bad := api.Sent{Seq: 77, ID: 78, Tries: 79}
	for n := range 9 {
		for acked := range n + 1 {
			p := newPair(t, 16, 1)
			p.assign(t, n, 10)
			for i := range n {
				p.run(t, step{kind: send, n: i})
			}
			lists := [][]api.Sent{p.s.Pending(), p.s.Exhausted(), p.s.Pending(), p.s.Exhausted()}
			ids := p.run(t, step{kind: ack, m: api.Bitmap{Base: acked / 2, Bits: 0b101}}).list
			lists = append(lists, p.s.Pending(), p.s.Exhausted())
			wantIDs := slices.Clone(ids)
			var want [][]api.Sent
			for _, list := range lists {
				want = append(want, slices.Clone(list))
			}
			p.assign(t, 3, 50)
			p.run(t, step{kind: send, n: n + 1})
			p.run(t, step{kind: drop, n: n})
			p.run(t, step{kind: drop, n: n - 1})
			p.check(t, "later")
			for i, list := range lists {
				for k := i; k < len(lists); k++ {
					if !slices.Equal(lists[k], want[k]) {
						t.Fatalf("list %d of %d packets: %v has become %v", k, n, want[k], lists[k])
					}
				}
				spoil(list, bad)
				p.check(t, "with a changed list")
			}
			later := p.run(t, step{kind: ack, m: api.Bitmap{Base: p.m.next()}}).list
			wantLater := slices.Clone(later)
			if !slices.Equal(ids, wantIDs) {
				t.Fatalf("the ids %v have become %v", wantIDs, ids)
			}
			spoil(ids, 99)
			p.check(t, "with changed ids")
			if !slices.Equal(later, wantLater) {
				t.Fatalf("the ids %v have become %v", wantLater, later)
			}
		}
	}
}
