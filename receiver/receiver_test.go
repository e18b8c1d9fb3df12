package receiver_test

import (
	"math"
	"math/rand/v2"
	"reflect"
	"slices"
	"testing"

	"airshare/api"
	"airshare/receiver"
	"airshare/sender"
)

// The limits, written out.
const (
	mostWindow = 64
	numbers    = 65536
	farthest   = 32767
)

// badNumbers are not sequence numbers; some of their lower bits are those of numbers that are permitted.
var badNumbers = []int{-1, -2, -64, -32768, -65535, -65536, -65537, 65536, 65537, 65600, 1 << 17, 1<<17 + 1, 1 << 31, 1 << 32, 1<<32 + 1, -1 << 32, 1 - 1<<32, 1<<48 + 1, 1<<56 + 1, math.MaxInt, math.MaxInt - 1, math.MinInt, math.MinInt + 1}

// badIDs are not ids of packets.
var badIDs = []int{0, -1, -2, -64, -65536, -1 << 31, -1 << 32, 1 - 1<<32, math.MinInt, math.MinInt + 1}

// starts are numbers from which a test may count, mostly so that its numbers pass the end of all numbers or the half.
var starts = []int{0, 1, 2, 63, 64, 100, 32703, 32740, 32767, 32768, 65471, 65472, 65500, 65530, 65533, 65534, 65535}

// number returns the sequence number of a count, which may be negative.
func number(count int) int {
	return (count%numbers + numbers) % numbers
}

// model is a second wording of the chapter: it counts numbers without an end, and remembers what has become of each.
type model struct {
	window int
	// expected is a count; its remainder is the sequence number.
	expected int
	// held are the counts and ids of the held packets, in no order.
	held [][2]int
}

// count returns the count that a base means, if it is permitted.
func (m *model) count(base int) (int, api.Errno) {
	if base < 0 || base >= numbers {
		return 0, api.ErrInvalid
	}
	for back := 1; back <= m.window; back++ {
		if number(m.expected-back) == base {
			return m.expected - back, api.OK
		}
	}
	steps := number(base - m.expected)
	if steps > farthest {
		return 0, api.ErrRange
	}
	return m.expected + steps, api.OK
}

// removed removes the packets whose counts are before a limit and returns their ids in order.
func (m *model) removed(limit int) []int {
	var ids []int
	slices.SortFunc(m.held, func(a, b [2]int) int { return a[0] - b[0] })
	for len(m.held) > 0 && m.held[0][0] < limit {
		ids = append(ids, m.held[0][1])
		m.held = slices.Clone(m.held[1:])
	}
	return ids
}

func (m *model) holdsCount(count int) bool {
	return slices.ContainsFunc(m.held, func(p [2]int) bool { return p[0] == count })
}

// settle tells the model a base, of which the count is known, and a packet, unless its id is 0.
func (m *model) settle(base, count, id int) []int {
	ids := m.removed(base)
	m.expected = max(m.expected, base)
	if id > 0 && count >= m.expected && !m.holdsCount(count) {
		m.held = append(m.held, [2]int{count, id})
	}
	for m.holdsCount(m.expected) {
		m.expected++
	}
	return append(ids, m.removed(m.expected)...)
}

func (m *model) Receive(base, seq, id int) ([]int, api.Errno) {
	count, err := m.count(base)
	switch {
	case err == api.ErrInvalid || seq < 0 || seq >= numbers || id <= 0:
		return nil, api.ErrInvalid
	case err != api.OK:
		return nil, err
	}
	for steps := range m.window {
		if number(count+steps) == seq {
			return m.settle(count, count+steps, id), api.OK
		}
	}
	return nil, api.ErrRange
}

func (m *model) Skip(base int) ([]int, api.Errno) {
	count, err := m.count(base)
	if err != api.OK {
		return nil, err
	}
	return m.settle(count, 0, 0), api.OK
}

func (m *model) Expected() int {
	return number(m.expected)
}

// Acks counts the bits by doubling.
func (m *model) Acks() api.Bitmap {
	out, value := api.Bitmap{Base: m.Expected()}, uint64(1)
	for steps := range 64 {
		if m.holdsCount(m.expected + steps) {
			out.Bits += value
		}
		value *= 2
	}
	return out
}

func (m *model) Holds(id int) bool {
	return slices.ContainsFunc(m.held, func(p [2]int) bool { return p[1] == id })
}

func (m *model) Holding() []int {
	var ids []int
	for steps := range m.window {
		for _, p := range m.held {
			if p[0] == m.expected+steps {
				ids = append(ids, p[1])
			}
		}
	}
	return ids
}

// orderer is a receiver or a model.
type orderer interface {
	Receive(base, seq, id int) ([]int, api.Errno)
	Skip(base int) ([]int, api.Errno)
	Acks() api.Bitmap
	Expected() int
	Holds(id int) bool
	Holding() []int
}

// step is a call of Receive, or of Skip.
type step struct {
	skip          bool
	base, seq, id int
}

func take(r orderer, x step) ([]int, api.Errno) {
	if x.skip {
		return r.Skip(x.base)
	}
	return r.Receive(x.base, x.seq, x.id)
}

// view returns all that can be read of r, with the ids about which Holds is asked.
func view(r orderer, ids ...int) []any {
	out := []any{r.Acks(), r.Expected(), append([]int{}, r.Holding()...)}
	for _, id := range ids {
		out = append(out, id, r.Holds(id))
	}
	return out
}

// pair is a receiver beside a model with the same calls.
type pair struct {
	r *receiver.Receiver
	m *model
}

func newPair(t *testing.T, window int) pair {
	t.Helper()
	r, err := receiver.New(window)
	if r == nil || err != api.OK {
		t.Fatalf("New(%d) = %v, %d", window, r, err)
	}
	return pair{r, &model{window: window}}
}

// newPairAt returns a pair that holds nothing and expects start.
func newPairAt(t *testing.T, window, start int) pair {
	t.Helper()
	p := newPair(t, window)
	p.wind(t, start)
	return p
}

// wind skips numbers until start is expected.
func (p pair) wind(t *testing.T, start int) {
	t.Helper()
	for p.r.Expected() != start {
		base := number(p.r.Expected() + min(farthest, number(start-p.r.Expected())))
		p.run(t, step{skip: true, base: base})
		if got := p.r.Expected(); got != base {
			t.Fatalf("Expected() = %d after Skip(%d)", got, base)
		}
	}
	p.check(t, start)
}

// run takes a step on both and returns the result, which must be the same.
func (p pair) run(t *testing.T, x step) ([]int, api.Errno) {
	t.Helper()
	want, wantErr := take(p.m, x)
	got, err := take(p.r, x)
	if !slices.Equal(got, want) || err != wantErr {
		t.Fatalf("%+v: %v, %d, want %v, %d", x, got, err, want, wantErr)
	}
	return got, err
}

// want takes a step on both, which must release these ids.
func (p pair) want(t *testing.T, x step, want ...int) {
	t.Helper()
	if got, err := p.run(t, x); !slices.Equal(got, want) || err != api.OK {
		t.Fatalf("%+v: %v, %d, want %v, 0", x, got, err, want)
	}
	p.check(t, x, want...)
}

// nothing takes a step on both, which must have this error, release nothing and change nothing that can be seen.
func (p pair) nothing(t *testing.T, x step, want api.Errno) {
	t.Helper()
	was := view(p.r, x.id)
	if got, err := p.run(t, x); len(got) > 0 || err != want {
		t.Fatalf("%+v: %v, %d, want none, %d", x, got, err, want)
	}
	if is := view(p.r, x.id); !reflect.DeepEqual(is, was) {
		t.Fatalf("%+v: %v has become %v", x, was, is)
	}
	p.check(t, x)
}

// check checks all that can be read of a receiver, with some ids about which Holds is asked.
func (p pair) check(t *testing.T, what any, ids ...int) {
	t.Helper()
	asked := append([]int{0, -1, 1, 2, 7, 8, math.MaxInt, math.MinInt}, ids...)
	for _, h := range p.m.held {
		asked = append(asked, h[1], h[1]+1, number(h[0]))
	}
	if got, want := view(p.r, asked...), view(p.m, asked...); !reflect.DeepEqual(got, want) {
		t.Fatalf("%+v: %v, want %v", what, got, want)
	}
}

// TestExamples checks the chapter's examples.
func TestExamples(t *testing.T) {
	for _, start := range starts {
		first := newPairAt(t, 4, start)
		first.want(t, step{base: start, seq: number(start + 1), id: 8})
		first.want(t, step{base: start, seq: start, id: 7}, 7, 8)
		first.nothing(t, step{base: start, seq: start, id: 7}, api.OK)
		second := newPairAt(t, 4, start)
		second.want(t, step{base: start, seq: number(start + 1), id: 8})
		second.want(t, step{base: number(start + 1), seq: number(start + 2), id: 9}, 8, 9)
		second.nothing(t, step{base: start, seq: start, id: 7}, api.OK)
	}
}

// TestNew checks P17.1: what a new receiver tells and how far its window goes, for all windows, and the error.
func TestNew(t *testing.T) {
	for _, window := range append([]int{-3, -2, 0, 65, 66, 127, 128, 129, 256, 257, 320}, badNumbers...) {
		if r, err := receiver.New(window); r != nil || err != api.ErrInvalid {
			t.Errorf("New(%d) = %v, %d, want nil, %d", window, r, err, api.ErrInvalid)
		}
	}
	for window := 1; window <= mostWindow; window++ {
		p := newPair(t, window)
		if got := p.r.Acks(); got != (api.Bitmap{}) {
			t.Errorf("New(%d): Acks() = %+v", window, got)
		}
		if got, list := p.r.Expected(), p.r.Holding(); got != 0 || len(list) > 0 {
			t.Errorf("New(%d): Expected() = %d, Holding() = %v", window, got, list)
		}
		p.check(t, "new")
		p.nothing(t, step{seq: window, id: 1}, api.ErrRange)
		p.nothing(t, step{seq: window + 1, id: 1}, api.ErrRange)
		p.nothing(t, step{seq: numbers - 1, id: 1}, api.ErrRange)
		p.nothing(t, step{base: numbers - window, seq: numbers - window, id: 1}, api.OK)
		p.nothing(t, step{base: numbers - window, seq: numbers - 1, id: 1}, api.OK)
		p.nothing(t, step{base: numbers - window, seq: 0, id: 1}, api.ErrRange)
		p.nothing(t, step{base: numbers - window - 1, seq: numbers - 1, id: 1}, api.ErrRange)
		checkFill(t, p)
	}
}

// checkFill receives all packets of the window of a pair without any, the first one last.
func checkFill(t *testing.T, p pair) {
	t.Helper()
	start, window := p.m.expected, p.m.window
	var ids []int
	for i := 1; i < window; i++ {
		p.want(t, step{base: number(start), seq: number(start + i), id: 1000 + i})
		ids = append(ids, 1000+i)
		if got := p.r.Holding(); !slices.Equal(got, ids) {
			t.Fatalf("Holding() = %v, want %v", got, ids)
		}
	}
	// All bits but the lowest one are set: one for each packet of the window but the first one.
	if got, want := p.r.Acks(), (api.Bitmap{Base: number(start), Bits: math.MaxUint64>>(64-window) - 1}); got != want {
		t.Fatalf("window %d: Acks() = %+v, want %+v", window, got, want)
	}
	p.want(t, step{base: number(start), seq: number(start), id: 1000}, append([]int{1000}, ids...)...)
	if got := p.r.Acks(); got != (api.Bitmap{Base: number(start + window)}) {
		t.Fatalf("window %d: Acks() = %+v from %d on", window, got, start)
	}
}

// TestFill receives full windows in the same way all over the numbers.
func TestFill(t *testing.T) {
	for _, start := range starts {
		for _, window := range []int{1, 2, 3, 31, 32, 33, 63, 64} {
			checkFill(t, newPairAt(t, window, start))
		}
	}
}

// TestInvalid checks ErrInvalid in P17.2 for each argument, that it comes before ErrRange, and that it has no effect.
func TestInvalid(t *testing.T) {
	for _, start := range []int{0, 32767, 65534} {
		p := newPairAt(t, 8, start)
		p.want(t, step{base: start, seq: number(start + 2), id: 5})
		far := number(start + 33000)
		for _, bad := range badNumbers {
			p.nothing(t, step{skip: true, base: bad}, api.ErrInvalid)
			for _, good := range []int{start, number(start + 1), far} {
				for _, id := range []int{-1, 0, 1, 9} {
					p.nothing(t, step{base: bad, seq: good, id: id}, api.ErrInvalid)
					p.nothing(t, step{base: good, seq: bad, id: id}, api.ErrInvalid)
					p.nothing(t, step{base: bad, seq: bad, id: id}, api.ErrInvalid)
				}
			}
		}
		for _, bad := range badIDs {
			for _, base := range []int{start, number(start + 1), number(start - 1), far} {
				for _, seq := range []int{start, number(start + 1), number(start - 1), number(start + 2), far} {
					p.nothing(t, step{base: base, seq: seq, id: bad}, api.ErrInvalid)
				}
			}
		}
	}
}

// TestIDs checks that every id from 1 on is permitted, and that several packets may have the same one.
func TestIDs(t *testing.T) {
	ids := []int{5, 1, math.MaxInt, 1 << 32, 65536, 5, 5, 1}
	for _, start := range starts {
		p := newPairAt(t, 16, start)
		for i, id := range ids {
			p.want(t, step{base: start, seq: number(start + i + 1), id: id})
			if !p.r.Holds(id) || p.r.Holds(id-1) || p.r.Holds(-id) {
				t.Fatalf("Holds(%d) = %t, Holds(%d) = %t, Holds(%d) = %t", id, p.r.Holds(id), id-1, p.r.Holds(id-1), -id, p.r.Holds(-id))
			}
		}
		if got := p.r.Holding(); !slices.Equal(got, ids) {
			t.Fatalf("Holding() = %v, want %v", got, ids)
		}
		p.want(t, step{skip: true, base: number(start + 2)}, ids...)
		for _, id := range ids {
			if p.r.Holds(id) {
				t.Fatalf("Holds(%d) = true after its release", id)
			}
		}
	}
}

// TestBase checks in P17.2 which bases are permitted: it tries all sequence numbers, with packets held and without.
func TestBase(t *testing.T) {
	for _, window := range []int{1, 2, 5, 63, 64} {
		for _, start := range []int{0, 30, 32768, 65535} {
			p, holds := newPairAt(t, window, start), newPairAt(t, window, start)
			if window > 1 {
				holds.want(t, step{base: start, seq: number(start + window - 1), id: 3})
			}
			for steps := farthest + 1; steps < numbers-window; steps++ {
				base := number(start + steps)
				for _, x := range []step{{skip: true, base: base}, {base: base, seq: base, id: 1}, {base: base, seq: start, id: 1}} {
					for _, r := range []*receiver.Receiver{p.r, holds.r} {
						if got, err := take(r, x); len(got) > 0 || err != api.ErrRange {
							t.Fatalf("%+v with the window %d from %d on: %v, %d", x, window, start, got, err)
						}
					}
				}
			}
			p.check(t, "refused")
			holds.check(t, "refused")
			for back := range window + 1 {
				base := number(start - back)
				holds.nothing(t, step{skip: true, base: base}, api.OK)
				if back > 0 {
					holds.nothing(t, step{base: base, seq: base, id: 1}, api.OK)
				}
			}
		}
	}
}

// TestAhead checks that every base that is less than half of all numbers after the expected number becomes the expected one, and releases what is held before it or at it.
func TestAhead(t *testing.T) {
	for _, start := range []int{0, 20000} {
		for steps := range farthest + 1 {
			r := newPair(t, 3).r
			r.Skip(start)
			r.Receive(start, start+2, 6)
			base, expected := number(start+steps), number(start+steps)
			var want []int
			if steps >= 2 {
				want, expected = []int{6}, number(start+max(3, steps))
			}
			if got, err := r.Skip(base); !slices.Equal(got, want) || err != api.OK {
				t.Fatalf("Skip(%d) = %v, %d from %d on, want %v", base, got, err, start, want)
			}
			if got := r.Expected(); got != expected || r.Holds(6) != (steps < 2) {
				t.Fatalf("Skip(%d) from %d on: Expected() = %d, want %d; Holds(6) = %t", base, start, got, expected, r.Holds(6))
			}
		}
	}
}

// TestWindow checks in P17.2 which sequence numbers are inside the window: all of them for some bases, and those around the ends for each window.
func TestWindow(t *testing.T) {
	checkOutside := func(p pair, base, from, to int) {
		t.Helper()
		for steps := from; steps < to; steps++ {
			x := step{base: base, seq: number(base + steps), id: 4}
			if got, err := take(p.r, x); len(got) > 0 || err != api.ErrRange {
				t.Fatalf("%+v with the window %d: %v, %d", x, p.m.window, got, err)
			}
		}
	}
	for _, start := range []int{0, 32760, 65530} {
		for window := 1; window <= mostWindow; window++ {
			for _, ahead := range []int{-window, -1, 0, 1, 2, window, farthest} {
				base := number(start + ahead)
				p := newPairAt(t, window, start)
				checkOutside(p, base, window, window+70)
				checkOutside(p, base, numbers-70, numbers)
				if window%21 == 0 {
					checkOutside(p, base, window, numbers)
				}
				p.check(t, "outside")
				for steps := range window {
					inside := newPairAt(t, window, start)
					inside.run(t, step{base: base, seq: number(base + steps), id: 4})
					inside.check(t, steps)
				}
			}
		}
	}
}

// TestRefusedWithBase checks that a packet that is refused does not move the expected number to its base.
func TestRefusedWithBase(t *testing.T) {
	for _, start := range starts {
		p := newPairAt(t, 4, start)
		p.want(t, step{base: start, seq: number(start + 1), id: 8})
		p.want(t, step{base: start, seq: number(start + 3), id: 9})
		base := number(start + 2)
		for _, seq := range []int{number(start + 1), number(start + 6), start, number(start + 40000)} {
			p.nothing(t, step{base: base, seq: seq, id: 7}, api.ErrRange)
		}
		p.nothing(t, step{base: base, seq: -1, id: 7}, api.ErrInvalid)
		p.nothing(t, step{base: base, seq: base, id: 0}, api.ErrInvalid)
		p.want(t, step{base: base, seq: base, id: 7}, 8, 7, 9)
	}
}

// visitOrders calls visit with all orders of the numbers below n.
func visitOrders(n int, visit func(order []int)) {
	var extend func(order []int)
	extend = func(order []int) {
		if len(order) == n {
			visit(order)
		}
		for i := range n {
			if !slices.Contains(order, i) {
				extend(append(slices.Clone(order), i))
			}
		}
	}
	extend(nil)
}

// TestOrders checks that six packets are released in order, each as soon as those before it are, whatever the order in which they come, and that each of them is ignored when it comes again.
func TestOrders(t *testing.T) {
	for _, start := range []int{0, 65533} {
		visitOrders(6, func(order []int) {
			p := newPairAt(t, 6, start)
			came, released := [7]bool{}, 0
			for _, i := range order {
				came[i] = true
				var want []int
				for came[released] {
					want = append(want, 10+released)
					released++
				}
				p.want(t, step{base: start, seq: number(start + i), id: 10 + i}, want...)
				if got := p.r.Expected(); got != number(start+released) {
					t.Fatalf("Expected() = %d with %v from %d on", got, order, start)
				}
				for k := range came {
					if came[k] {
						p.nothing(t, step{base: start, seq: number(start + k), id: 20 + k}, api.OK)
					}
				}
			}
			if released != 6 || len(p.r.Holding()) > 0 {
				t.Fatalf("%d were released with %v, Holding() = %v", released, order, p.r.Holding())
			}
		})
	}
}

// TestDuplicates checks 2 in P17.2: a packet before the expected number or with the number of a held one is ignored, whatever its id.
func TestDuplicates(t *testing.T) {
	for _, start := range starts {
		p := newPairAt(t, 4, start)
		p.want(t, step{base: start, seq: start, id: 1}, 1)
		p.want(t, step{base: start, seq: number(start + 2), id: 3})
		for _, id := range []int{1, 2, 3, 4} {
			p.nothing(t, step{base: start, seq: start, id: id}, api.OK)
			p.nothing(t, step{base: start, seq: number(start + 2), id: id}, api.OK)
			for back := range 4 {
				for seq := range back + 1 {
					p.nothing(t, step{base: number(start - back), seq: number(start - seq), id: id}, api.OK)
				}
			}
			p.nothing(t, step{base: number(start - 1), seq: number(start + 2), id: id}, api.OK)
		}
		p.want(t, step{base: start, seq: number(start + 1), id: 2}, 2, 3)
		// A duplicate may bring a new base.
		p.want(t, step{base: number(start + 3), seq: number(start + 5), id: 6})
		p.want(t, step{base: number(start + 4), seq: number(start + 5), id: 7})
		p.want(t, step{base: number(start + 5), seq: number(start + 5), id: 7}, 6)
		p.want(t, step{base: number(start + 6), seq: number(start + 8), id: 9})
		p.want(t, step{base: number(start + 7), seq: number(start + 8), id: 8})
		p.nothing(t, step{base: number(start + 6), seq: number(start + 6), id: 5}, api.OK)
		p.want(t, step{base: number(start + 7), seq: number(start + 7), id: 8}, 8, 9)
	}
}

// heldOf returns the packets of a set of five that follow the expected number, and holds them.
func heldOf(t *testing.T, p pair, set int) []int {
	t.Helper()
	start := p.r.Expected()
	var held []int
	for i := 5; i >= 1; i-- {
		if set>>(i-1)&1 == 1 {
			p.want(t, step{base: start, seq: number(start + i), id: 10 + i})
			held = append([]int{i}, held...)
		}
	}
	return held
}

// idsUpTo returns the ids of the held packets that are released when a number is expected: those before it, and those that follow without a gap.
func idsUpTo(held []int, limit int) (ids []int, expected int) {
	for _, i := range held {
		if i > limit {
			break
		}
		ids = append(ids, 10+i)
		limit = max(limit, i+1)
	}
	return ids, limit
}

// TestSkip checks 1 and 3 in P17.2 for all sets of five held packets and each base around them, by Skip and by Receive.
func TestSkip(t *testing.T) {
	for _, start := range []int{0, 65531, 65534} {
		for set := range 32 {
			for base := range 9 {
				p := newPairAt(t, 6, start)
				held := heldOf(t, p, set)
				want, expected := idsUpTo(held, base)
				p.want(t, step{skip: true, base: number(start + base)}, want...)
				if got := p.r.Expected(); got != number(start+expected) {
					t.Fatalf("Expected() = %d, want %d: Skip(%d) from %d on with %v", got, expected, base, start, held)
				}
				p.nothing(t, step{skip: true, base: number(start + base)}, api.OK)
				p.nothing(t, step{skip: true, base: start}, errorIf(expected > 6, api.ErrRange))
				for seq := base; seq < base+6; seq++ {
					q := newPairAt(t, 6, start)
					heldOf(t, q, set)
					q.run(t, step{base: number(start + base), seq: number(start + seq), id: 30})
					q.check(t, seq)
				}
			}
		}
	}
}

// errorIf returns an error if it applies.
func errorIf(applies bool, err api.Errno) api.Errno {
	if applies {
		return err
	}
	return api.OK
}

// TestReads checks P17.3 with written-out values for all sets of five held packets.
func TestReads(t *testing.T) {
	for _, start := range starts {
		for set := range 32 {
			p := newPairAt(t, 6, start)
			var ids []int
			for _, i := range heldOf(t, p, set) {
				ids = append(ids, 10+i)
			}
			if got := p.r.Acks(); got != (api.Bitmap{Base: start, Bits: uint64(set) << 1}) {
				t.Errorf("Acks() = %+v from %d on, want the bits %b", got, start, set<<1)
			}
			if got := p.r.Holding(); !slices.Equal(got, ids) {
				t.Errorf("Holding() = %v, want %v", got, ids)
			}
			if got := p.r.Expected(); got != start {
				t.Errorf("Expected() = %d, want %d", got, start)
			}
			for id := range 20 {
				if got := p.r.Holds(id); got != slices.Contains(ids, id) {
					t.Errorf("Holds(%d) = %t with %v", id, got, ids)
				}
			}
		}
	}
}

// TestBits checks each bit of Acks alone, with the greatest window.
func TestBits(t *testing.T) {
	for _, start := range starts {
		for bit := 1; bit < 64; bit++ {
			p := newPairAt(t, mostWindow, start)
			p.want(t, step{base: start, seq: number(start + bit), id: 77})
			if got := p.r.Acks(); got != (api.Bitmap{Base: start, Bits: 1 << bit}) {
				t.Fatalf("Acks() = %+v from %d on with the packet %d", got, start, bit)
			}
			// The bit keeps its number when others are skipped.
			p.want(t, step{skip: true, base: number(start + bit/2)})
			if got := p.r.Acks(); got != (api.Bitmap{Base: number(start + bit/2), Bits: 1 << (bit - bit/2)}) {
				t.Fatalf("Acks() = %+v after Skip(%d) from %d on", got, bit/2, start)
			}
		}
	}
}

// TestShort runs all sequences of steps of a length on receivers with small windows.
func TestShort(t *testing.T) {
	for _, c := range []struct{ window, start, length int }{{1, 0, 4}, {2, 0, 4}, {3, 0, 4}, {4, 65534, 4}} {
		at := func(count int) int { return number(c.start + count) }
		steps := []step{
			{base: at(0), seq: at(0), id: 1}, {base: at(0), seq: at(1), id: 2}, {base: at(0), seq: at(2), id: 3}, {base: at(1), seq: at(1), id: 4},
			{base: at(1), seq: at(3), id: 5}, {base: at(2), seq: at(3), id: 6}, {base: at(-1), seq: at(0), id: 7}, {base: at(3), seq: at(3), id: 8},
			{skip: true, base: at(0)}, {skip: true, base: at(1)}, {skip: true, base: at(2)}, {skip: true, base: at(4)},
		}
		sequences := 1
		for range c.length {
			sequences *= len(steps)
		}
		for sequence := range sequences {
			p := newPairAt(t, c.window, c.start)
			rest := sequence
			for range c.length {
				p.run(t, steps[rest%len(steps)])
				rest /= len(steps)
			}
			p.check(t, sequence)
		}
	}
}

// randomStep returns a step for a receiver with the calls of a model, mostly one that is permitted.
func randomStep(source *rand.Rand, m *model) step {
	base := m.expected
	switch n := source.IntN(100); {
	case n < 30:
		base -= source.IntN(m.window + 2)
	case n < 40:
		base += source.IntN(m.window + 3)
	case n < 45:
		base += source.IntN(4)
	case n < 46:
		base += farthest - source.IntN(m.window+3) + m.window
	}
	seq := base + source.IntN(m.window)
	switch n := source.IntN(100); {
	case n < 40:
		seq = m.expected + source.IntN(m.window)
	case n < 45:
		seq = base + source.IntN(m.window+3) - 1
	}
	x := step{skip: source.IntN(4) == 0, base: number(base), seq: number(seq), id: 1 + source.IntN(200)}
	switch source.IntN(100) {
	case 0:
		x.base = badNumbers[source.IntN(len(badNumbers))]
	case 1:
		x.seq = badNumbers[source.IntN(len(badNumbers))]
	case 2:
		x.id = badIDs[source.IntN(len(badIDs))]
	case 3:
		x.base = source.IntN(numbers)
	case 4:
		x.seq = source.IntN(numbers)
	}
	return x
}

// TestRandom compares receivers with the model, step by step, and checks that each kind of result comes up.
func TestRandom(t *testing.T) {
	source := rand.New(rand.NewPCG(171, 1))
	type kind struct {
		skip bool
		err  api.Errno
	}
	counts, released := map[kind]int{}, 0
	for _, window := range []int{1, 2, 3, 4, 5, 7, 8, 9, 17, 32, 63, 64} {
		for _, start := range []int{0, numbers - 200, numbers/2 - 100} {
			p := newPairAt(t, window, start)
			for range 1000 {
				x := randomStep(source, p.m)
				ids, err := p.run(t, x)
				p.check(t, x, ids...)
				released += len(ids)
				counts[kind{x.skip, err}]++
			}
		}
	}
	for _, skip := range []bool{false, true} {
		for _, err := range []api.Errno{api.OK, api.ErrInvalid, api.ErrRange} {
			if n := counts[kind{skip, err}]; n < 50 {
				t.Errorf("steps with skip = %t had the result %d only %d times", skip, err, n)
			}
		}
	}
	if released < 5000 {
		t.Errorf("only %d packets were released", released)
	}
}

// TestAround goes around all numbers twice, with every other packet early and every seventh one skipped.
func TestAround(t *testing.T) {
	for _, window := range []int{2, 5, 64} {
		p := newPair(t, window)
		id := 0
		for count := 0; count < 2*numbers+100; count += 2 {
			first, second := number(count), number(count+1)
			id += 2
			want, x := []int{id, id + 1}, step{base: first, seq: first, id: id}
			if count%7 == 0 {
				want, x = []int{id + 1}, step{skip: true, base: second}
			}
			if got, err := p.run(t, step{base: first, seq: second, id: id + 1}); len(got) > 0 || err != api.OK {
				t.Fatalf("the packet %d releases %v, %d", count+1, got, err)
			}
			if got, err := p.run(t, x); !slices.Equal(got, want) || err != api.OK {
				t.Fatalf("%+v: %v, %d, want %v", x, got, err, want)
			}
			if first < 100 || first > numbers-100 {
				p.check(t, count)
			}
		}
	}
}

// TestConsequences checks both consequences, and that every number before the expected one was either released or skipped, in runs in which the id of a packet is its count, and packets and bases come late, twice or never.
func TestConsequences(t *testing.T) {
	source := rand.New(rand.NewPCG(172, 1))
	for _, window := range []int{1, 2, 3, 9, 40, 64} {
		const first = 100
		r := newPairAt(t, window, first).r
		held, released, skipped := map[int]bool{}, map[int]bool{}, map[int]bool{}
		sent, expected, last := first, first, 0
		for range 100000 {
			sent += source.IntN(6) / 5
			base := max(sent-source.IntN(window), expected-window)
			count := base + source.IntN(window)
			ids, err := r.Receive(number(base), number(count), count)
			if err != api.OK {
				t.Fatalf("window %d: Receive(%d, %d, %d) = %d", window, base, count, count, err)
			}
			for n := expected; n < base; n++ {
				skipped[n] = !held[n]
			}
			if count >= max(expected, base) {
				held[count] = true
			}
			for _, id := range ids {
				if id <= last || !held[id] || skipped[id] {
					t.Fatalf("window %d: %d is released after %d, held: %t, skipped: %t", window, id, last, held[id], skipped[id])
				}
				last = id
				released[id] = true
			}
			for ; expected < base || number(expected) != r.Expected(); expected++ {
				if released[expected] == skipped[expected] {
					t.Fatalf("window %d: %d is expected after %d, released: %t, skipped: %t", window, r.Expected(), expected, released[expected], skipped[expected])
				}
			}
		}
		if len(released) < 2000 {
			t.Errorf("window %d: only %d packets", window, len(released))
		}
	}
}

// link is a sender and a receiver, with the slot-by-slot use of chapter 29.
type link struct {
	s *sender.Sender
	r *receiver.Receiver
	// gone are the ids that were dropped while they were not held, and delivered those that were released, in order.
	gone, delivered []int
}

func newLink(t *testing.T, window, tries int) *link {
	t.Helper()
	s, err := sender.New(window, tries)
	if err != api.OK {
		t.Fatal(err)
	}
	return &link{s: s, r: newPair(t, window).r}
}

// deliver notes released packets.
func (l *link) deliver(t *testing.T, ids []int, err api.Errno) {
	t.Helper()
	if err != api.OK {
		t.Fatalf("error %d", err)
	}
	l.delivered = append(l.delivered, ids...)
}

// slot sends some pending packets, of which none arrives in a bad slot, and acknowledges them unless that is lost.
func (l *link) slot(t *testing.T, good, acked bool, most int) {
	t.Helper()
	for _, p := range l.s.Pending() {
		if most > 0 && !bitOf(l.r.Acks(), p.Seq) {
			most--
			l.s.Send(p.Seq)
			if good {
				ids, err := l.r.Receive(l.s.Base(), p.Seq, p.ID)
				l.deliver(t, ids, err)
			}
		}
	}
	if good && acked {
		l.s.Ack(l.r.Acks())
	}
	for _, p := range l.s.Exhausted() {
		l.s.Drop(p.Seq)
		if !l.r.Holds(p.ID) && !slices.Contains(l.delivered[max(0, len(l.delivered)-200):], p.ID) {
			l.gone = append(l.gone, p.ID)
		}
	}
	ids, err := l.r.Skip(l.s.Base())
	l.deliver(t, ids, err)
}

// bitOf reports whether the bit of seq is set.
func bitOf(m api.Bitmap, seq int) bool {
	steps := number(seq - m.Base)
	return steps < 64 && m.Bits>>steps&1 == 1
}

// TestSender runs senders and receivers together until all numbers have been used more than once: every packet is delivered in order, or it is gone.
func TestSender(t *testing.T) {
	source := rand.New(rand.NewPCG(173, 1))
	for _, c := range [][2]int{{1, 2}, {4, 1}, {16, 3}, {64, 2}} {
		l := newLink(t, c[0], c[1])
		packets := numbers + 1000
		for id, rest := 1, c[0]*3; rest > 0; {
			for l.s.Open() && id <= packets {
				l.s.Assign(id)
				id++
			}
			l.slot(t, source.IntN(4) > 0, source.IntN(4) > 0, 1+source.IntN(c[0]))
			if id > packets && len(l.s.Pending()) == 0 {
				rest--
			}
		}
		all := slices.Concat(l.delivered, l.gone)
		slices.Sort(all)
		if !slices.IsSorted(l.delivered) || len(all) != packets || len(slices.Compact(all)) != packets {
			t.Errorf("%v: of %d packets, %d were delivered (in order: %t) and %d are gone", c, packets, len(l.delivered), slices.IsSorted(l.delivered), len(l.gone))
		}
		if len(l.gone) < 10 || len(l.r.Holding()) > 0 {
			t.Errorf("%v: %d packets are gone, %d are held", c, len(l.gone), len(l.r.Holding()))
		}
	}
}

// TestRead checks that the methods that read change nothing.
func TestRead(t *testing.T) {
	p := newPairAt(t, 4, 65534)
	p.want(t, step{base: 65534, seq: 65535, id: 10})
	p.want(t, step{base: 65534, seq: 1, id: 11})
	for range 5 {
		p.check(t, "read")
	}
	p.want(t, step{base: 65534, seq: 65534, id: 9}, 9, 10)
	p.want(t, step{skip: true, base: 1}, 11)
}

// TestRepeated checks P2: the results depend only on the calls made before on the same receiver, whatever is done with another one in between.
func TestRepeated(t *testing.T) {
	source := rand.New(rand.NewPCG(174, 1))
	randomSteps := func() (out []step) {
		m := &model{window: 10}
		for range 1000 {
			x := randomStep(source, m)
			take(m, x)
			out = append(out, x)
		}
		return out
	}
	steps := randomSteps()
	run := func(between func(i int)) (out []any) {
		r := newPair(t, 10).r
		for i, x := range steps {
			between(i)
			ids, err := take(r, x)
			out = append(out, append([]int{}, ids...), err, view(r, x.id))
		}
		return out
	}
	want := run(func(int) {})
	other := newPair(t, 20).r
	for range 3 {
		noise := randomSteps()
		if got := run(func(i int) { take(other, noise[i]) }); !reflect.DeepEqual(got, want) {
			t.Error("the results depend on another receiver")
		}
	}
}

// spoil overwrites a list and what may lie behind its end.
func spoil(list []int) {
	for i := range list {
		list[i] = 99
	}
	_ = append(list, 99, 99, 99)
	_ = append(list[:0], 99, 99, 99)
}

// TestOwnLists checks that the results of Receive, Skip and Holding share no memory with each other, with later results or with the receiver.
func TestOwnLists(t *testing.T) {
	for n := range 12 {
		for passed := range n + 2 {
			p := newPairAt(t, 16, 65530)
			at := func(count int) int { return number(65530 + count) }
			var lists, copies [][]int
			keep := func(ids []int) {
				lists, copies = append(lists, ids), append(copies, slices.Clone(ids))
			}
			run := func(x step) {
				ids, _ := p.run(t, x)
				keep(ids)
				keep(p.r.Holding())
			}
			for i := range n {
				run(step{base: at(0), seq: at(i + 1 + i/3), id: 10 + i})
			}
			keep(p.r.Holding())
			run(step{base: at(passed), seq: at(max(passed, 2)), id: 40})
			run(step{base: at(passed), seq: at(passed), id: 41})
			run(step{skip: true, base: at(passed + 2)})
			run(step{base: at(passed + 2), seq: at(passed + 4), id: 42})
			run(step{skip: true, base: at(passed + 3)})
			run(step{skip: true, base: at(passed + 12)})
			for i, list := range lists {
				for k := i; k < len(lists); k++ {
					if !slices.Equal(lists[k], copies[k]) {
						t.Fatalf("list %d of %d packets: %v has become %v", k, n, copies[k], lists[k])
					}
				}
				spoil(list)
				p.check(t, "with a changed list")
			}
			keep(p.r.Holding())
			spoil(lists[len(lists)-1])
			p.check(t, "with a changed list")
			run(step{skip: true, base: at(passed + 30)})
			p.check(t, "later")
		}
	}
}
