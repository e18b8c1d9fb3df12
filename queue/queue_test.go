package queue_test

import (
	"math"
	"math/rand/v2"
	"reflect"
	"slices"
	"testing"

	"airshare/api"
	"airshare/queue"
)

// The greatest numbers that are permitted, written out.
const (
	mostPackets  = 64
	mostBytes    = 262144
	lastFlow     = 31
	longest      = 4096
	lastArrival  = 16384
	lastDeadline = 81919
)

// far are numbers that are far from nearly all that is permitted; some of their lower bits are those of 1.
var far = []int{-2, -16, 1 << 30, 1 << 31, 1 << 32, 1<<32 + 1, -1 << 32, 1<<56 + 1, math.MaxInt, math.MaxInt - 1, math.MinInt, math.MinInt + 1}

// badPackets and badBytes are caps that are not permitted.
var (
	badPackets = append([]int{0, -1, 65, 66, 128}, far...)
	badBytes   = append([]int{0, -1, 262145, 262146}, far...)
)

// goodBytes are caps that are permitted.
var goodBytes = []int{1, 2, 63, 64, 65, 4095, 4096, 4097, 65535, 65536, 262143, 262144}

// slots are numbers of slots, as which any are permitted.
var slots = []int{math.MinInt, math.MinInt + 1, -1 << 32, -2, -1, 0, 1, 2, 3, 4, 5, 6, 7, 16384, 81918, 81919, 81920, 1 << 32, math.MaxInt - 1, math.MaxInt}

// model is a second wording of the chapter: a list that is made anew for each change, with the sum of the lengths beside it.
type model struct {
	packets, bytes int
	items          []api.Packet
	total          int
}

func valid(p api.Packet) bool {
	switch {
	case p.ID <= 0, p.Flow < 0, p.Flow > 31, p.Length <= 0, p.Length > 4096, p.Arrived < 0, p.Arrived > 16384:
		return false
	case p.Deadline == -1:
		return true
	}
	return p.Arrived <= p.Deadline && p.Deadline <= 81919
}

func (m *model) push(p api.Packet) api.Errno {
	switch {
	case !valid(p):
		return api.ErrInvalid
	case len(m.items) >= m.packets, p.Length > m.bytes-m.total:
		return api.ErrFull
	}
	m.items = slices.Concat(m.items, []api.Packet{p})
	m.total += p.Length
	return api.OK
}

// remove removes and returns the packets that go, by their index or by what they are.
func (m *model) remove(goes func(i int, p api.Packet) bool) []api.Packet {
	var gone, left []api.Packet
	for i, p := range m.items {
		if goes(i, p) {
			gone = append(gone, p)
			m.total -= p.Length
		} else {
			left = append(left, p)
		}
	}
	m.items = left
	return gone
}

func (m *model) pop() (api.Packet, api.Errno) {
	gone := m.remove(func(i int, _ api.Packet) bool { return i == 0 })
	if len(gone) == 0 {
		return api.Packet{}, api.ErrEmpty
	}
	return gone[0], api.OK
}

func (m *model) expire(slot int) []api.Packet {
	return m.remove(func(_ int, p api.Packet) bool { return p.Deadline >= 0 && slot > p.Deadline })
}

func (m *model) clear() []api.Packet {
	return m.remove(func(int, api.Packet) bool { return true })
}

func (m *model) setCaps(packets, bytes int) api.Errno {
	if packets <= 0 || packets > 64 || bytes <= 0 || bytes > 262144 {
		return api.ErrInvalid
	}
	m.packets, m.bytes = packets, bytes
	return api.OK
}

// Kinds of steps.
const (
	push = iota
	pop
	expire
	clearAll
	setCaps
)

// step is a call of a method that may change a queue, with its arguments in their order.
type step struct {
	kind int
	p    api.Packet
	a, b int
}

// result is what such a call returns.
type result struct {
	p    api.Packet
	list []api.Packet
	err  api.Errno
}

func onQueue(q *queue.Queue, s step) (out result) {
	switch s.kind {
	case push:
		out.err = q.Push(s.p)
	case pop:
		out.p, out.err = q.Pop()
	case expire:
		out.list = q.Expire(s.a)
	case clearAll:
		out.list = q.Clear()
	default:
		out.err = q.SetCaps(s.a, s.b)
	}
	return out
}

func onModel(m *model, s step) (out result) {
	switch s.kind {
	case push:
		out.err = m.push(s.p)
	case pop:
		out.p, out.err = m.pop()
	case expire:
		out.list = m.expire(s.a)
	case clearAll:
		out.list = m.clear()
	default:
		out.err = m.setCaps(s.a, s.b)
	}
	return out
}

// same reports whether two results are equal, where no list is the same as an empty one.
func (r result) same(other result) bool {
	return r.p == other.p && r.err == other.err && slices.Equal(r.list, other.list)
}

// pair is a queue beside a model with the same calls.
type pair struct {
	q *queue.Queue
	m *model
}

func newPair(t *testing.T, packets, bytes int) pair {
	t.Helper()
	q, err := queue.New(packets, bytes)
	if q == nil || err != api.OK {
		t.Fatalf("New(%d, %d) = %v, %d", packets, bytes, q, err)
	}
	return pair{q, &model{packets: packets, bytes: bytes}}
}

// run takes a step on both and returns the result, which must be the same.
func (p pair) run(t *testing.T, s step) result {
	t.Helper()
	got, want := onQueue(p.q, s), onModel(p.m, s)
	if !got.same(want) {
		t.Fatalf("%+v: %+v, want %+v", s, got, want)
	}
	return got
}

// want takes a step on both, whose result must be the one that is given.
func (p pair) want(t *testing.T, s step, want result) {
	t.Helper()
	if got := p.run(t, s); !got.same(want) {
		t.Fatalf("%+v: %+v, want %+v", s, got, want)
	}
}

// push pushes packets on both, which must be accepted.
func (p pair) push(t *testing.T, packets ...api.Packet) {
	t.Helper()
	for _, x := range packets {
		p.want(t, step{kind: push, p: x}, result{})
	}
}

// fail takes a step on both, which must have this error and change nothing that can be seen.
func (p pair) fail(t *testing.T, s step, err api.Errno) {
	t.Helper()
	p.want(t, s, result{err: err})
	p.check(t, "after an error")
}

// turn lets packets go through both, so that they begin elsewhere in what the queue keeps them in.
func (p pair) turn(t *testing.T, turns int) {
	t.Helper()
	for i := range turns {
		x := api.Packet{ID: 1000 + i, Length: 1, Deadline: -1}
		p.push(t, x)
		p.want(t, step{kind: pop}, result{p: x})
	}
}

// check checks all that can be seen of a queue without a change.
func (p pair) check(t *testing.T, what string) {
	t.Helper()
	if got := p.q.Packets(); !slices.Equal(got, p.m.items) {
		t.Fatalf("%s: Packets() = %+v, want %+v", what, got, p.m.items)
	}
	if got := p.q.Len(); got != len(p.m.items) {
		t.Fatalf("%s: Len() = %d, want %d", what, got, len(p.m.items))
	}
	if got := p.q.Bytes(); got != p.m.total {
		t.Fatalf("%s: Bytes() = %d, want %d", what, got, p.m.total)
	}
	var first api.Packet
	if len(p.m.items) > 0 {
		first = p.m.items[0]
	}
	if got, there := p.q.Head(); got != first || there != (len(p.m.items) > 0) {
		t.Fatalf("%s: Head() = %+v, %t with %+v", what, got, there, p.m.items)
	}
}

// drain pops all packets, and one more.
func (p pair) drain(t *testing.T) {
	t.Helper()
	for _, x := range p.m.items {
		p.want(t, step{kind: pop}, result{p: x})
	}
	p.fail(t, step{kind: pop}, api.ErrEmpty)
}

// packet returns a packet without a deadline.
func packet(id, length int) api.Packet {
	return api.Packet{ID: id, Length: length, Deadline: -1}
}

// numbered returns n packets of different lengths, of which none has a number that tells its place.
func numbered(n int) []api.Packet {
	var out []api.Packet
	for i := range n {
		out = append(out, api.Packet{ID: 1 + i*37%101, Flow: i * 5 % 32, Length: 3 + i*i%17, Arrived: i * 7, Deadline: i*11 - 1})
		if i%3 == 0 {
			out[i].Deadline = -1
		}
	}
	return out
}

// TestNew checks New in P11.1: all numbers of packets, with numbers of bytes up to both ends, and what is not permitted.
func TestNew(t *testing.T) {
	for packets := 1; packets <= mostPackets; packets++ {
		for _, bytes := range goodBytes {
			p := newPair(t, packets, bytes)
			p.check(t, "new")
			p.fail(t, step{kind: pop}, api.ErrEmpty)
			for _, slot := range slots {
				p.want(t, step{kind: expire, a: slot}, result{})
			}
			p.want(t, step{kind: clearAll}, result{})
			p.check(t, "still empty")
		}
		for _, bytes := range badBytes {
			checkNoQueue(t, packets, bytes)
		}
	}
	for _, packets := range badPackets {
		for _, bytes := range slices.Concat(goodBytes, badBytes) {
			checkNoQueue(t, packets, bytes)
		}
	}
}

func checkNoQueue(t *testing.T, packets, bytes int) {
	t.Helper()
	if q, err := queue.New(packets, bytes); q != nil || err != api.ErrInvalid {
		t.Errorf("New(%d, %d) = %v, %d, want nil, %d", packets, bytes, q, err, api.ErrInvalid)
	}
}

// TestExamples checks the chapter's examples.
func TestExamples(t *testing.T) {
	p := newPair(t, 2, 100)
	p.push(t, packet(1, 60))
	p.fail(t, step{kind: push, p: packet(2, 50)}, api.ErrFull)
	p.push(t, packet(3, 40))
	p.check(t, "full")
	p = newPair(t, 2, 100)
	four := api.Packet{ID: 1, Length: 10, Deadline: 4}
	five := api.Packet{ID: 2, Length: 20, Deadline: 5}
	p.push(t, four, five)
	p.want(t, step{kind: expire, a: 5}, result{list: []api.Packet{four}})
	p.check(t, "expired")
	if got := p.q.Packets(); !slices.Equal(got, []api.Packet{five}) {
		t.Errorf("Packets() = %+v, want %+v", got, five)
	}
}

// TestValid checks Valid in P11.1 at both ends of each number: one number after the other with the others permitted, and then all of them with each other.
func TestValid(t *testing.T) {
	base := api.Packet{ID: 7, Flow: 3, Length: 100, Arrived: 50, Deadline: 60}
	for _, c := range []struct {
		name string
		set  func(p *api.Packet, x int)
		good []int
		bad  []int
	}{
		{"ID", func(p *api.Packet, x int) { p.ID = x }, []int{1, 2, 4096, 1 << 18, 1<<18 + 1, 1 << 32, math.MaxInt}, []int{0, -1, -2, -1 << 32, math.MinInt}},
		{"Flow", func(p *api.Packet, x int) { p.Flow = x }, []int{0, 1, 16, 30, 31}, append([]int{-1, 32, 33}, far...)},
		{"Length", func(p *api.Packet, x int) { p.Length = x }, []int{1, 2, 4095, 4096}, append([]int{0, -1, 4097, 4098}, far...)},
		{"Arrived", func(p *api.Packet, x int) { p.Arrived = x }, []int{0, 1, 59, 60}, append([]int{-1, 61, 62, 16384}, far...)},
		{"Arrived without a deadline", func(p *api.Packet, x int) { p.Arrived, p.Deadline = x, -1 }, []int{0, 1, 16383, 16384}, append([]int{-1, 16385, 16386, 65535, 81919}, far...)},
		{"Deadline", func(p *api.Packet, x int) { p.Deadline = x }, []int{-1, 50, 51, 81918, 81919}, append([]int{49, 48, 1, 0, 81920, 81921}, far...)},
		{"Deadline from the start", func(p *api.Packet, x int) { p.Arrived, p.Deadline = 0, x }, []int{-1, 0, 1, 65535, 65536, 81919}, append([]int{81920, 98304}, far...)},
		{"Deadline from the end", func(p *api.Packet, x int) { p.Arrived, p.Deadline = 16384, x }, []int{-1, 16384, 16385, 81919}, append([]int{0, 1, 16383, 81920}, far...)},
	} {
		for i, x := range slices.Concat(c.good, c.bad) {
			p := base
			c.set(&p, x)
			want := i < len(c.good)
			if got := queue.Valid(p); got != want {
				t.Errorf("%s %d: Valid(%+v) = %t, want %t", c.name, x, p, got, want)
			}
		}
	}
	if queue.Valid(api.Packet{}) {
		t.Error("the zero packet is valid")
	}
}

// TestValidTogether compares Valid and Push with the model for packets with several numbers at once at the ends of what is permitted.
func TestValidTogether(t *testing.T) {
	counts := map[bool]int{}
	p := newPair(t, mostPackets, mostBytes)
	for _, id := range []int{math.MinInt, -1, 0, 1, 2, math.MaxInt} {
		for _, flow := range []int{-1, 0, 1, lastFlow, lastFlow + 1} {
			for _, length := range []int{-1, 0, 1, longest, longest + 1} {
				for _, arrived := range []int{math.MinInt, -2, -1, 0, 1, lastArrival - 1, lastArrival, lastArrival + 1, lastDeadline} {
					for _, deadline := range []int{math.MinInt, -2, -1, 0, 1, lastArrival - 1, lastArrival, lastArrival + 1, lastDeadline, lastDeadline + 1, math.MaxInt} {
						x := api.Packet{ID: id, Flow: flow, Length: length, Arrived: arrived, Deadline: deadline}
						want := valid(x)
						if got := queue.Valid(x); got != want {
							t.Fatalf("Valid(%+v) = %t, want %t", x, got, want)
						}
						counts[want]++
						p.run(t, step{kind: push, p: x})
						if want {
							p.want(t, step{kind: pop}, result{p: x})
						}
					}
				}
			}
		}
	}
	p.check(t, "at last")
	if counts[true] < 200 || counts[false] < 200 {
		t.Errorf("%d packets are valid and %d are not", counts[true], counts[false])
	}
}

// badNumbers returns for each number of a packet one that is not permitted.
func badNumbers() []api.Packet {
	return []api.Packet{
		{},
		{ID: 0, Length: 1, Deadline: -1},
		{ID: 1, Length: 0, Deadline: -1},
		{ID: 1, Length: -5, Deadline: -1},
		{ID: 1, Length: 4097, Deadline: -1},
		{ID: 1, Length: math.MaxInt, Deadline: -1},
		{ID: 1, Length: math.MinInt, Deadline: -1},
		{ID: 1, Flow: 32, Length: 1, Deadline: -1},
		{ID: 1, Flow: -1, Length: 1, Deadline: -1},
		{ID: 1, Length: 1, Arrived: 16385, Deadline: -1},
		{ID: 1, Length: 1, Arrived: -1, Deadline: -1},
		{ID: 1, Length: 1, Deadline: -2},
		{ID: 1, Length: 1, Arrived: 2, Deadline: 1},
		{ID: 1, Length: 1, Deadline: 81920},
	}
}

// TestPushInvalid checks ErrInvalid in P11.2: it comes before ErrFull, and has no effect.
func TestPushInvalid(t *testing.T) {
	for n := range 4 {
		for _, bytes := range []int{60, 100} {
			p := newPair(t, 3, bytes)
			for i := range n {
				p.push(t, packet(9-i, 20))
			}
			for _, x := range badNumbers() {
				p.fail(t, step{kind: push, p: x}, api.ErrInvalid)
			}
			p.drain(t)
		}
	}
}

// TestPacketCap checks for each cap that Push accepts as many packets and no more, whatever has been removed before and in whichever way.
func TestPacketCap(t *testing.T) {
	removals := []step{{kind: pop}, {kind: expire, a: 2}, {kind: clearAll}}
	for packets := 1; packets <= mostPackets; packets++ {
		for _, remove := range removals {
			p := newPair(t, packets, mostBytes)
			for i := range packets {
				p.push(t, api.Packet{ID: i + 1, Length: longest - i, Deadline: 1 + i%2})
			}
			for _, length := range []int{1, 2, longest} {
				p.fail(t, step{kind: push, p: packet(100, length)}, api.ErrFull)
			}
			p.run(t, remove)
			p.check(t, "removed")
			for len(p.m.items) < packets {
				p.push(t, packet(200+len(p.m.items), 5))
			}
			p.fail(t, step{kind: push, p: packet(300, 1)}, api.ErrFull)
			p.drain(t)
		}
	}
}

// TestByteCap checks for lists of lengths that Push accepts as many bytes as the cap permits and not one more.
func TestByteCap(t *testing.T) {
	for _, lengths := range [][]int{
		{}, {1}, {99}, {1, 1, 1}, {50, 49}, {10, 20, 30, 39}, {4096, 4096, 4096}, {4096, 1, 4095}, slices.Repeat([]int{4096}, 62), slices.Repeat([]int{63}, 60),
	} {
		sum := 0
		for _, length := range lengths {
			sum += length
		}
		for _, room := range []int{1, 2, 50, 4095, 4096} {
			p := newPair(t, mostPackets, sum+room)
			for i, length := range lengths {
				p.push(t, packet(i+1, length))
			}
			for _, more := range []int{1, 2, 100} {
				if room+more <= longest {
					p.fail(t, step{kind: push, p: packet(100, room+more)}, api.ErrFull)
				}
			}
			p.push(t, packet(101, room))
			p.fail(t, step{kind: push, p: packet(102, 1)}, api.ErrFull)
			p.want(t, step{kind: pop}, result{p: p.m.items[0]})
			room = p.m.bytes - p.m.total
			if room+1 <= longest {
				p.fail(t, step{kind: push, p: packet(103, room+1)}, api.ErrFull)
			}
			p.push(t, packet(104, min(room, longest)))
			p.check(t, "full again")
		}
	}
}

// TestLargest fills a queue with as many of the longest packets as there may be, with and without the last byte of the cap.
func TestLargest(t *testing.T) {
	for _, missing := range []int{0, 1} {
		p := newPair(t, mostPackets, mostBytes-missing)
		for i := range mostPackets - 1 {
			p.push(t, packet(math.MaxInt-i, longest))
		}
		if missing > 0 {
			p.fail(t, step{kind: push, p: packet(1, longest)}, api.ErrFull)
		}
		p.push(t, packet(2, longest-missing))
		if got := p.q.Bytes(); got != mostBytes-missing {
			t.Errorf("Bytes() = %d, want %d", got, mostBytes-missing)
		}
		p.fail(t, step{kind: push, p: packet(3, 1)}, api.ErrFull)
		p.drain(t)
	}
}

// TestPopAndHead checks Pop and Head in P11.2 and the order in the chapter's consequences, with as many packets as there may be, wherever the queue begins.
func TestPopAndHead(t *testing.T) {
	for _, turns := range []int{0, 1, 2, 31, 62, 63, 64, 65} {
		for _, n := range []int{0, 1, 2, 3, 10, 63, 64} {
			p := newPair(t, mostPackets, mostBytes)
			p.turn(t, turns)
			for i, x := range numbered(n) {
				p.push(t, x)
				p.check(t, "pushed")
				if got := p.q.Len(); got != i+1 {
					t.Fatalf("Len() = %d after %d pushes", got, i+1)
				}
			}
			for _, x := range numbered(n) {
				if got, there := p.q.Head(); got != x || !there {
					t.Fatalf("Head() = %+v, %t, want %+v, true", got, there, x)
				}
				p.want(t, step{kind: pop}, result{p: x})
				p.check(t, "popped")
			}
			for range 3 {
				p.fail(t, step{kind: pop}, api.ErrEmpty)
			}
			p.push(t, packet(1, 1))
			p.drain(t)
		}
	}
}

// TestEqualPackets checks that a queue takes equal packets, and packets of several flows and with any order of numbers and slots.
func TestEqualPackets(t *testing.T) {
	x := api.Packet{ID: 5, Flow: 31, Length: 7, Arrived: 9, Deadline: 9}
	y := api.Packet{ID: 4, Flow: 0, Length: 7, Arrived: 3, Deadline: 4}
	for _, list := range [][]api.Packet{{x, x}, {x, x, x}, {x, y, x}, {y, x, x, y}} {
		p := newPair(t, 5, 100)
		p.push(t, list...)
		if got := p.q.Packets(); !slices.Equal(got, list) {
			t.Errorf("Packets() = %+v, want %+v", got, list)
		}
		p.want(t, step{kind: expire, a: 9}, result{list: slices.DeleteFunc(slices.Clone(list), func(p api.Packet) bool { return p == x })})
		p.check(t, "expired")
		p.want(t, step{kind: expire, a: 10}, result{list: slices.Repeat([]api.Packet{x}, len(p.m.items))})
		p.check(t, "empty")
	}
}

// TestLate checks for one packet in which slots Expire removes it.
func TestLate(t *testing.T) {
	for _, c := range []struct{ arrived, deadline int }{
		{0, -1}, {5, -1}, {16384, -1}, {0, 0}, {0, 1}, {1, 1}, {3, 4}, {0, 4}, {0, 5}, {0, 16384}, {16384, 16384}, {16384, 81918}, {0, 81919},
	} {
		for _, slot := range append([]int{c.deadline - 1, c.deadline, c.deadline + 1, c.arrived - 1, c.arrived, c.arrived + 1}, slots...) {
			p := newPair(t, 1, 10)
			x := api.Packet{ID: 1, Length: 10, Arrived: c.arrived, Deadline: c.deadline}
			p.push(t, x)
			var want []api.Packet
			if c.deadline >= 0 && slot >= c.deadline+1 {
				want = []api.Packet{x}
			}
			p.want(t, step{kind: expire, a: slot}, result{list: want})
			p.check(t, "expired")
			p.want(t, step{kind: expire, a: slot}, result{})
			p.check(t, "expired twice")
		}
	}
}

// TestExpire checks P11.3 for all lists of four deadlines around a slot, wherever the queue begins; that Expire leaves no late packet, as the chapter's consequences say; and that its packets make room.
func TestExpire(t *testing.T) {
	deadlines := []int{-1, 3, 4, 5, 6}
	n := len(deadlines)
	for _, turns := range []int{0, 1, 61, 62, 63, 64} {
		for list := range n * n * n * n {
			for _, slot := range []int{-1, 3, 4, 5, 6, 7, math.MaxInt} {
				p := newPair(t, 4, 10)
				p.turn(t, turns)
				rest := list
				for i := range 4 {
					p.push(t, api.Packet{ID: 9 - i, Flow: i, Length: i + 1, Arrived: i, Deadline: deadlines[rest%n]})
					rest /= n
				}
				gone := p.run(t, step{kind: expire, a: slot}).list
				p.check(t, "expired")
				for _, x := range p.q.Packets() {
					if x.Deadline != -1 && x.Deadline < slot {
						t.Fatalf("%+v is late in the slot %d", x, slot)
					}
				}
				p.want(t, step{kind: expire, a: slot}, result{})
				for _, x := range gone {
					x.Deadline = -1
					p.push(t, x)
				}
				p.fail(t, step{kind: push, p: packet(20, 1)}, api.ErrFull)
				p.drain(t)
			}
		}
	}
}

// TestExpireLong checks that the order is kept in queues that are as long as may be, slot by slot.
func TestExpireLong(t *testing.T) {
	source := rand.New(rand.NewPCG(111, 112))
	for round := range 50 {
		p := newPair(t, mostPackets, mostBytes)
		p.turn(t, round)
		for i := range mostPackets {
			p.push(t, api.Packet{ID: 1 + source.IntN(100), Flow: i % 32, Length: 1 + source.IntN(longest), Deadline: source.IntN(20) - 1})
		}
		for slot := range 22 {
			p.run(t, step{kind: expire, a: slot})
			p.check(t, "expired")
			if source.IntN(2) == 0 {
				p.run(t, step{kind: pop})
			}
			p.run(t, step{kind: push, p: packet(500+slot, 10)})
		}
		p.drain(t)
	}
}

// TestClear checks Clear in P11.3 for each number of packets, and that all room is free after it.
func TestClear(t *testing.T) {
	for n := range mostPackets + 1 {
		p := newPair(t, max(n, 1), mostBytes)
		p.turn(t, n/2)
		list := numbered(n)
		p.push(t, list...)
		p.want(t, step{kind: clearAll}, result{list: list})
		p.check(t, "cleared")
		p.fail(t, step{kind: pop}, api.ErrEmpty)
		p.want(t, step{kind: clearAll}, result{})
		p.want(t, step{kind: expire, a: math.MaxInt}, result{})
		slices.Reverse(list)
		p.push(t, list...)
		p.check(t, "pushed again")
		p.drain(t)
	}
}

// TestSetCaps checks SetCaps in P11.1: permitted caps count for what is pushed after that, and packets that exceed them remain.
func TestSetCaps(t *testing.T) {
	for _, old := range []struct{ packets, bytes int }{{4, 100}, {64, 262144}, {4, 10}} {
		for packets := 1; packets <= mostPackets; packets++ {
			for _, bytes := range append([]int{9, 10, 11, 12, 13}, goodBytes...) {
				p := newPair(t, old.packets, old.bytes)
				for i := range 4 {
					p.push(t, packet(9-i, i+1))
				}
				p.want(t, step{kind: setCaps, a: packets, b: bytes}, result{})
				p.check(t, "other caps")
				accepted := 0
				for p.run(t, step{kind: push, p: packet(20, 1)}).err == api.OK {
					accepted++
				}
				if want := max(0, min(packets-4, bytes-10)); accepted != want {
					t.Fatalf("SetCaps(%d, %d) with 4 packets of 10 bytes: %d more of one byte, want %d", packets, bytes, accepted, want)
				}
				p.check(t, "filled")
				p.want(t, step{kind: pop}, result{p: packet(9, 1)})
				p.run(t, step{kind: push, p: packet(21, 1)})
				p.drain(t)
			}
		}
	}
}

// TestSetCapsInvalid checks ErrInvalid of SetCaps in P11.1, and that it has no effect: the old caps still count.
func TestSetCapsInvalid(t *testing.T) {
	checkRefused := func(packets, bytes int) {
		t.Helper()
		for _, c := range []struct{ packets, bytes, fits int }{{3, 100, 2}, {10, 7, 3}} {
			p := newPair(t, c.packets, c.bytes)
			p.push(t, packet(1, 4))
			p.fail(t, step{kind: setCaps, a: packets, b: bytes}, api.ErrInvalid)
			for i := range c.fits {
				p.push(t, packet(2+i, 1))
			}
			p.fail(t, step{kind: push, p: packet(9, 1)}, api.ErrFull)
		}
	}
	for _, packets := range badPackets {
		for _, bytes := range slices.Concat(goodBytes, badBytes) {
			checkRefused(packets, bytes)
		}
	}
	for packets := 1; packets <= mostPackets; packets++ {
		for _, bytes := range badBytes {
			checkRefused(packets, bytes)
		}
	}
}

// TestShrink checks that a full queue under smaller caps accepts nothing until enough has left it, and that the caps may grow again.
func TestShrink(t *testing.T) {
	p := newPair(t, mostPackets, mostBytes)
	for i := range mostPackets {
		p.push(t, packet(i+1, 10))
	}
	p.want(t, step{kind: setCaps, a: 3, b: 45}, result{})
	for i := range mostPackets - 3 {
		p.fail(t, step{kind: push, p: packet(100, 1)}, api.ErrFull)
		p.want(t, step{kind: pop}, result{p: packet(i+1, 10)})
	}
	p.fail(t, step{kind: push, p: packet(100, 1)}, api.ErrFull)
	p.want(t, step{kind: setCaps, a: 5, b: 35}, result{})
	p.fail(t, step{kind: push, p: packet(100, 6)}, api.ErrFull)
	p.push(t, packet(101, 5))
	p.want(t, step{kind: setCaps, a: mostPackets, b: mostBytes}, result{})
	for i := range mostPackets - 4 {
		p.push(t, packet(200+i, longest))
	}
	p.fail(t, step{kind: push, p: packet(300, 1)}, api.ErrFull)
	p.drain(t)
}

// randomPacket returns a packet that mostly is valid, with deadlines around those slots in which randomStep expires packets.
func randomPacket(source *rand.Rand) api.Packet {
	bad := badNumbers()
	if source.IntN(20) == 0 {
		return bad[source.IntN(len(bad))]
	}
	lengths := []int{1, 10, 100, longest}
	p := api.Packet{ID: 1 + source.IntN(1000), Flow: source.IntN(32), Length: 1 + source.IntN(lengths[source.IntN(len(lengths))]), Arrived: source.IntN(50), Deadline: -1}
	if source.IntN(2) == 0 {
		p.Deadline = p.Arrived + source.IntN(50)
	}
	return p
}

// randomCap returns a cap up to the greatest one, mostly a small one, or now and then one of the bad ones.
func randomCap(source *rand.Rand, most int, bad []int) int {
	switch source.IntN(8) {
	case 0:
		return bad[source.IntN(len(bad))]
	case 1, 2, 3:
		return 1 + source.IntN(most)
	}
	return 1 + most/8 + source.IntN(most/8)
}

// randomStep returns a step. Most of them push, so that queues get full.
func randomStep(source *rand.Rand) step {
	switch n := source.IntN(100); {
	case n < 65:
		return step{kind: push, p: randomPacket(source)}
	case n < 85:
		return step{kind: pop}
	case n < 93:
		return step{kind: expire, a: source.IntN(100) - 1}
	case n < 95:
		return step{kind: clearAll}
	}
	return step{kind: setCaps, a: randomCap(source, mostPackets, badPackets), b: randomCap(source, mostBytes, badBytes)}
}

// TestRandom compares queues with the model, step by step, and checks that each kind of result comes up.
func TestRandom(t *testing.T) {
	source := rand.New(rand.NewPCG(113, 114))
	counts := map[[2]int]int{}
	removed := map[int]int{}
	for _, packets := range []int{1, 2, 3, 10, 40, 64} {
		for _, bytes := range []int{1, 50, 500, 5000, 262144} {
			for range 3 {
				p := newPair(t, packets, bytes)
				for range 700 {
					s := randomStep(source)
					got := p.run(t, s)
					counts[[2]int{s.kind, int(got.err)}]++
					removed[s.kind] += len(got.list)
					p.check(t, "random")
				}
				p.drain(t)
			}
		}
	}
	for kind, errs := range [][]api.Errno{
		push:    {api.OK, api.ErrInvalid, api.ErrFull},
		pop:     {api.OK, api.ErrEmpty},
		setCaps: {api.OK, api.ErrInvalid},
	} {
		for _, err := range errs {
			if counts[[2]int{kind, int(err)}] < 100 {
				t.Errorf("steps of the kind %d had the result %d only %d times", kind, err, counts[[2]int{kind, int(err)}])
			}
		}
	}
	for _, kind := range []int{expire, clearAll} {
		if removed[kind] < 1000 {
			t.Errorf("steps of the kind %d removed only %d packets", kind, removed[kind])
		}
	}
}

// TestSmall runs all sequences of five steps on queues with small caps.
func TestSmall(t *testing.T) {
	steps := []step{
		{kind: push, p: packet(1, 1)}, {kind: push, p: api.Packet{ID: 2, Length: 2, Deadline: 4}}, {kind: push, p: api.Packet{ID: 3, Length: 3, Deadline: 5}},
		{kind: pop}, {kind: expire, a: 5}, {kind: expire, a: 6}, {kind: clearAll}, {kind: setCaps, a: 1, b: 6}, {kind: setCaps, a: 4, b: 4},
	}
	n := len(steps)
	for packets := 1; packets <= 3; packets++ {
		for sequence := range n * n * n * n * n {
			p := newPair(t, packets, 5)
			rest := sequence
			for range 5 {
				p.run(t, steps[rest%n])
				rest /= n
			}
			p.check(t, "small")
		}
	}
}

// TestRead checks that the methods that read change nothing.
func TestRead(t *testing.T) {
	p := newPair(t, 4, 100)
	p.turn(t, 63)
	p.push(t, numbered(3)...)
	for range 5 {
		p.check(t, "read")
	}
	p.push(t, packet(1, 2))
	p.fail(t, step{kind: push, p: packet(1, 2)}, api.ErrFull)
	p.drain(t)
}

// TestRepeated checks P2: the results depend only on the calls made before on the same queue, whatever is done with another one in between.
func TestRepeated(t *testing.T) {
	source := rand.New(rand.NewPCG(115, 116))
	randomSteps := func() (out []step) {
		for range 500 {
			out = append(out, randomStep(source))
		}
		return out
	}
	steps := randomSteps()
	run := func(between func()) (out []any) {
		q := newPair(t, 20, 20000).q
		for _, s := range steps {
			between()
			head, there := q.Head()
			out = append(out, onQueue(q, s), q.Packets(), q.Len(), q.Bytes(), head, there, queue.Valid(s.p))
		}
		return out
	}
	other := newPair(t, 10, 500).q
	want := run(func() {})
	for range 3 {
		noise := randomSteps()
		got := run(func() {
			onQueue(other, noise[0])
			noise = noise[1:]
		})
		if !reflect.DeepEqual(got, want) {
			t.Error("the results depend on another queue")
		}
	}
}

// spoil overwrites a list and what may lie behind its end.
func spoil(list []api.Packet) {
	for i := range list {
		list[i] = packet(77, 78)
	}
	_ = append(list, packet(79, 80))
	_ = append(list[:0], packet(81, 82))
}

// TestOwnLists checks that the results of Packets, Expire and Clear share no memory with each other, with later results or with the queue: it calls the methods again, and then changes one result after the other.
func TestOwnLists(t *testing.T) {
	for _, turns := range []int{0, 3, 62} {
		for n := range 8 {
			p := newPair(t, 10, 1000)
			p.turn(t, turns)
			p.push(t, numbered(n)...)
			lists := [][]api.Packet{p.q.Packets(), p.q.Packets(), p.run(t, step{kind: expire, a: 30}).list, p.q.Packets(), p.run(t, step{kind: clearAll}).list}
			var want [][]api.Packet
			for _, list := range lists {
				want = append(want, slices.Clone(list))
			}
			others := func() {
				for i := range n {
					p.push(t, api.Packet{ID: 200 + i, Length: 5, Deadline: 20 + i%2*20})
				}
			}
			others()
			p.run(t, step{kind: expire, a: 30})
			p.check(t, "with other packets")
			p.run(t, step{kind: clearAll})
			others()
			for i, list := range lists {
				for k := i; k < len(lists); k++ {
					if !slices.Equal(lists[k], want[k]) {
						t.Fatalf("list %d of %d packets: %+v has become %+v", k, n, want[k], lists[k])
					}
				}
				spoil(list)
				p.check(t, "with a changed list")
			}
			p.drain(t)
		}
	}
}
