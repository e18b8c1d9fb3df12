package sfq_test

import (
	"math"
	"math/rand/v2"
	"reflect"
	"slices"
	"testing"

	"airshare/api"
	"airshare/sfq"
)

// The numbers of the document, written out.
const (
	scale     = 720720
	flowCount = 32
	heaviest  = 16
	longest   = 4096
	lastStart = 1099511627776
)

// perByte is what a byte costs for a flow with each weight; there is none with the weight 0.
var perByte = [heaviest + 1]int64{0, 720720, 360360, 240240, 180180, 144144, 120120, 102960, 90090, 80080, 72072, 65520, 60060, 55440, 51480, 48048, 45045}

// far are numbers that are far from all that is permitted as a flow, a weight or a length; some of their lower bits are those of 1.
var far = []int{-2, -16, -32, 1 << 16, 1<<16 + 1, 1 << 31, 1 << 32, 1<<32 + 1, 1<<40 + 1, 1<<56 + 1, -1 << 32, 1 - 1<<32, math.MaxInt, math.MaxInt - 1, math.MinInt, math.MinInt + 1}

// The numbers that are not permitted, in each of their places.
var (
	badFlows   = append([]int{-1, 32, 33, 64}, far...)
	badWeights = append([]int{0, -1, 17, 18, 32}, far...)
	badLengths = append([]int{0, -1, -100, 4097, 4098, 8192}, far...)
	badRebases = []int64{0, -1, -2, -scale, -lastStart, lastStart + 1, lastStart + 2, 2 * lastStart, 1 << 62, -1 << 62, math.MaxInt64, math.MaxInt64 - 1, math.MinInt64, math.MinInt64 + 1}
)

// model is a second wording of the chapter that never subtracts anything: its tags and its time go on counting when the reference is rebased, and base is the number from which those of the reference count.
type model struct {
	rebase, base, time int64
	weights            [flowCount]int   // 0 for a flow that is not active
	starts             [flowCount]int64 // of the flows that are active or have left
}

func (m *model) isActive(flow int) bool {
	return flow >= 0 && flow < flowCount && m.weights[flow] > 0
}

func (m *model) isIdle() bool {
	return m.weights == [flowCount]int{}
}

func (m *model) Join(flow, weight int) api.Errno {
	switch {
	case flow < 0, flow > 31, weight < 1, weight > 16:
		return api.ErrInvalid
	case m.isActive(flow):
		return api.ErrDuplicate
	}
	m.weights[flow] = weight
	if m.starts[flow] < m.time {
		m.starts[flow] = m.time
	}
	return api.OK
}

func (m *model) Leave(flow int) api.Errno {
	if !m.isActive(flow) {
		return api.ErrNotFound
	}
	m.weights[flow] = 0
	if m.isIdle() {
		m.starts = [flowCount]int64{}
		m.time = m.base
	}
	return api.OK
}

func (m *model) SetWeight(flow, weight int) api.Errno {
	switch {
	case !m.isActive(flow):
		return api.ErrNotFound
	case weight < 1, weight > 16:
		return api.ErrInvalid
	}
	m.weights[flow] = weight
	return api.OK
}

func (m *model) Charge(flow, length int) api.Errno {
	if !m.isActive(flow) {
		return api.ErrNotFound
	}
	if length < 1 || length > 4096 {
		return api.ErrInvalid
	}
	before := m.starts[flow]
	after := before + int64(length)*perByte[m.weights[flow]]
	if after-m.base > lastStart {
		return api.ErrRange
	}
	m.starts[flow] = after
	if before > m.time {
		m.time = before
	}
	low := m.time
	for other, start := range m.starts {
		if m.isActive(other) && start < low {
			low = start
		}
	}
	if low-m.base >= m.rebase {
		m.base = low
	}
	return api.OK
}

func (m *model) Select() (int, api.Errno) {
	best := -1
	for flow := flowCount - 1; flow >= 0; flow-- {
		if m.isActive(flow) && (best < 0 || m.starts[flow] <= m.starts[best]) {
			best = flow
		}
	}
	if best < 0 {
		return 0, api.ErrEmpty
	}
	return best, api.OK
}

func (m *model) Tags() (out []api.Tag) {
	for flow, weight := range m.weights {
		if weight > 0 {
			out = append(out, api.Tag{Flow: flow, Weight: weight, Start: m.starts[flow] - m.base})
		}
	}
	return out
}

func (m *model) Time() int64 {
	return m.time - m.base
}

func (m *model) Rebased() int64 {
	return m.base
}

// reference is what a reference and a model have in common.
type reference interface {
	Join(flow, weight int) api.Errno
	Leave(flow int) api.Errno
	SetWeight(flow, weight int) api.Errno
	Select() (int, api.Errno)
	Charge(flow, length int) api.Errno
	Tags() []api.Tag
	Time() int64
	Rebased() int64
}

// view is all that can be seen of a reference.
type view struct {
	tags          []api.Tag
	time, rebased int64
	selected      int
	err           api.Errno
}

func seen(x reference) view {
	v := view{tags: x.Tags(), time: x.Time(), rebased: x.Rebased()}
	v.selected, v.err = x.Select()
	return v
}

func (v view) equals(w view) bool {
	return slices.Equal(v.tags, w.tags) && v.time == w.time && v.rebased == w.rebased && v.selected == w.selected && v.err == w.err
}

// Kinds of steps.
const (
	join = iota
	leave
	setWeight
	charge
	serve // charges the flow that is selected
	kinds
)

// step is a call of a method that may change a reference, with its arguments in their order.
type step struct{ kind, a, b int }

// take takes a step and returns its error.
func take(x reference, s step) api.Errno {
	switch s.kind {
	case join:
		return x.Join(s.a, s.b)
	case leave:
		return x.Leave(s.a)
	case setWeight:
		return x.SetWeight(s.a, s.b)
	case charge:
		return x.Charge(s.a, s.b)
	}
	flow, err := x.Select()
	if err != api.OK {
		return err
	}
	return x.Charge(flow, s.b)
}

// pair is a reference beside a model with the same calls.
type pair struct {
	x *sfq.Ref
	m *model
}

// newPair returns a pair with flows from 0 on that have these weights.
func newPair(t *testing.T, rebase int64, weights ...int) pair {
	t.Helper()
	x, err := sfq.New(rebase)
	if x == nil || err != api.OK {
		t.Fatalf("New(%d) = %v, %d", rebase, x, err)
	}
	p := pair{x, &model{rebase: rebase}}
	p.check(t, "new")
	for flow, weight := range weights {
		p.want(t, step{join, flow, weight}, api.OK)
	}
	return p
}

// copied returns a copy of both.
func (p pair) copied() pair {
	m := *p.m
	return pair{p.x.Copy(), &m}
}

// check checks all that can be seen of the reference.
func (p pair) check(t *testing.T, what any) {
	t.Helper()
	if got, want := seen(p.x), seen(p.m); !got.equals(want) {
		t.Fatalf("%v: %+v, want %+v", what, got, want)
	}
}

// run takes a step on both and returns the error, which must be the same, as must all that can be seen.
func (p pair) run(t *testing.T, s step) api.Errno {
	t.Helper()
	got, want := take(p.x, s), take(p.m, s)
	if got != want {
		t.Fatalf("%v: %d, want %d", s, got, want)
	}
	p.check(t, s)
	return got
}

// want takes a step that must have an error which the test writes out.
func (p pair) want(t *testing.T, s step, want api.Errno) {
	t.Helper()
	if got := p.run(t, s); got != want {
		t.Fatalf("%v: %d, want %d", s, got, want)
	}
}

// all takes steps that must succeed.
func (p pair) all(t *testing.T, steps ...step) {
	t.Helper()
	for _, s := range steps {
		p.want(t, s, api.OK)
	}
}

// wantTags checks tags that the test writes out.
func (p pair) wantTags(t *testing.T, want ...api.Tag) {
	t.Helper()
	if got := p.x.Tags(); !slices.Equal(got, want) {
		t.Errorf("Tags() = %v, want %v", got, want)
	}
}

// wantTimes checks a virtual time and a sum of what has been subtracted that the test writes out.
func (p pair) wantTimes(t *testing.T, time, rebased int64) {
	t.Helper()
	if gotTime, gotRebased := p.x.Time(), p.x.Rebased(); gotTime != time || gotRebased != rebased {
		t.Errorf("the virtual time is %d and %d has been subtracted, want %d and %d", gotTime, gotRebased, time, rebased)
	}
}

// wantSelect checks a selected flow that the test writes out.
func (p pair) wantSelect(t *testing.T, want int) {
	t.Helper()
	if got, err := p.x.Select(); got != want || err != api.OK {
		t.Errorf("Select() = %d, %d, want %d, 0", got, err, want)
	}
}

// raise charges a flow with the start tag 0 until its start tag is a certain number of at least 6 * Scale, and gives it the weight 1. Scale is the product of the weights tried here, so that a byte with one of them costs a multiple of all others: each settles its own remainder of the number. What is then left is a multiple of Scale.
func (p pair) raise(t *testing.T, flow int, to int64) {
	t.Helper()
	rest := to
	for _, weight := range []int{16, 13, 11, 9, 7, 5} {
		p.want(t, step{setWeight, flow, weight}, api.OK)
		for length := range weight {
			if cost := int64(length) * perByte[weight]; (rest-cost)%int64(weight) == 0 {
				if length > 0 {
					p.want(t, step{charge, flow, length}, api.OK)
				}
				rest -= cost
				break
			}
		}
	}
	p.want(t, step{setWeight, flow, 1}, api.OK)
	for rest > 0 {
		length := min(rest/scale, longest)
		p.want(t, step{charge, flow, int(length)}, api.OK)
		rest -= length * scale
	}
	if got := p.m.starts[flow]; got != to {
		t.Fatalf("the start tag of %d is %d, want %d", flow, got, to)
	}
}

// TestExamples checks the chapter's examples.
func TestExamples(t *testing.T) {
	p := newPair(t, lastStart, 1, 2)
	for i := range 600 {
		p.wantSelect(t, []int{0, 1, 1}[i%3])
		p.all(t, step{kind: serve, b: 100})
	}
	q := newPair(t, 1, 1, 2)
	for range 3 {
		q.all(t, step{kind: serve, b: 100})
	}
	q.wantTags(t, api.Tag{Flow: 0, Weight: 1, Start: 36036000}, api.Tag{Flow: 1, Weight: 2, Start: 36036000})
	q.wantTimes(t, 0, 36036000)
}

// TestNew checks P13.1.
func TestNew(t *testing.T) {
	for _, rebase := range []int64{1, 2, 3, 16, scale, 1 << 31, 1 << 32, 1<<32 + 1, lastStart / 2, lastStart - 1, lastStart} {
		p := newPair(t, rebase)
		p.wantTags(t)
		p.wantTimes(t, 0, 0)
		if flow, err := p.x.Select(); flow != 0 || err != api.ErrEmpty {
			t.Errorf("Select() = %d, %d, want 0, %d", flow, err, api.ErrEmpty)
		}
	}
	for _, rebase := range badRebases {
		if x, err := sfq.New(rebase); x != nil || err != api.ErrInvalid {
			t.Errorf("New(%d) = %v, %d, want nil, %d", rebase, x, err, api.ErrInvalid)
		}
	}
}

// TestNotActive checks ErrNotFound in P13.2 and P13.4 for flows that have never joined, have left or cannot join, also where the other argument is not permitted.
func TestNotActive(t *testing.T) {
	none, some := newPair(t, lastStart), newPair(t, 1, 3, 4, 5)
	some.all(t, step{kind: leave, a: 1})
	idle := newPair(t, 1, 3)
	idle.all(t, step{kind: leave, a: 0})
	for _, p := range []pair{none, some, idle} {
		var flows []int
		for flow := range flowCount {
			if !p.m.isActive(flow) {
				flows = append(flows, flow)
			}
		}
		for _, flow := range slices.Concat(flows, badFlows) {
			p.want(t, step{kind: leave, a: flow}, api.ErrNotFound)
			for _, weight := range slices.Concat([]int{1, 5, 16}, badWeights) {
				p.want(t, step{setWeight, flow, weight}, api.ErrNotFound)
			}
			for _, length := range slices.Concat([]int{1, 100, 4096}, badLengths) {
				p.want(t, step{charge, flow, length}, api.ErrNotFound)
			}
		}
	}
}

// TestJoin checks Join in P13.2 on a new reference: each flow with each weight, and all flows in several orders.
func TestJoin(t *testing.T) {
	for flow := range flowCount {
		for weight := 1; weight <= heaviest; weight++ {
			p := newPair(t, lastStart)
			p.all(t, step{join, flow, weight})
			p.wantTags(t, api.Tag{Flow: flow, Weight: weight})
			p.wantTimes(t, 0, 0)
			p.wantSelect(t, flow)
		}
	}
	source := rand.New(rand.NewPCG(131, 132))
	for range 50 {
		p := newPair(t, 1)
		var want []api.Tag
		for flow := range flowCount {
			want = append(want, api.Tag{Flow: flow, Weight: 1 + flow/2})
		}
		for _, flow := range source.Perm(flowCount) {
			p.all(t, step{join, flow, 1 + flow/2})
		}
		p.wantTags(t, want...)
	}
}

// TestJoinErrors checks the errors of Join in P13.2 and their order, for flows that are active, have left or have never joined.
func TestJoinErrors(t *testing.T) {
	p := newPair(t, lastStart, 3, 4, 5)
	p.all(t, step{charge, 1, 100}, step{charge, 1, 100}, step{kind: leave, a: 1})
	for _, flow := range badFlows {
		for _, weight := range slices.Concat([]int{1, 16}, badWeights) {
			p.want(t, step{join, flow, weight}, api.ErrInvalid)
		}
	}
	for _, flow := range []int{0, 1, 2, 3, 31} {
		for _, weight := range badWeights {
			p.want(t, step{join, flow, weight}, api.ErrInvalid)
		}
	}
	for _, flow := range []int{0, 2} {
		for weight := 1; weight <= heaviest; weight++ {
			p.want(t, step{join, flow, weight}, api.ErrDuplicate)
		}
	}
	p.wantTags(t, api.Tag{Flow: 0, Weight: 3}, api.Tag{Flow: 2, Weight: 5})
	// The errors have not touched what is remembered.
	p.all(t, step{join, 1, 6})
	p.wantTags(t, api.Tag{Flow: 0, Weight: 3}, api.Tag{Flow: 1, Weight: 6, Start: 200 * 180180}, api.Tag{Flow: 2, Weight: 5})
	p.want(t, step{join, 1, 6}, api.ErrDuplicate)
}

// TestStart checks in P13.2 the start tag of a flow that joins: the virtual time, or the remembered tag, where that is less, equal or greater.
func TestStart(t *testing.T) {
	p := newPair(t, lastStart, 1, 1)
	p.all(t, step{charge, 0, 100}, step{charge, 0, 50}, step{join, 2, 7})
	p.wantTags(t, api.Tag{Flow: 0, Weight: 1, Start: 150 * scale}, api.Tag{Flow: 1, Weight: 1}, api.Tag{Flow: 2, Weight: 7, Start: 100 * scale})
	p.all(t, step{kind: leave, a: 2}, step{kind: leave, a: 0}, step{join, 0, 2})
	p.wantTags(t, api.Tag{Flow: 0, Weight: 2, Start: 150 * scale}, api.Tag{Flow: 1, Weight: 1})
	p.all(t, step{kind: leave, a: 0}, step{charge, 1, 149}, step{charge, 1, 1}, step{join, 0, 3})
	p.wantTimes(t, 149*scale, 0)
	p.wantTags(t, api.Tag{Flow: 0, Weight: 3, Start: 150 * scale}, api.Tag{Flow: 1, Weight: 1, Start: 150 * scale})
	p.all(t, step{kind: leave, a: 0}, step{charge, 1, 1}, step{join, 0, 4})
	p.wantTimes(t, 150*scale, 0)
	p.wantTags(t, api.Tag{Flow: 0, Weight: 4, Start: 150 * scale}, api.Tag{Flow: 1, Weight: 1, Start: 151 * scale})
	p.all(t, step{kind: leave, a: 0}, step{charge, 1, 1}, step{join, 0, 5})
	p.wantTimes(t, 151*scale, 0)
	p.wantTags(t, api.Tag{Flow: 0, Weight: 5, Start: 151 * scale}, api.Tag{Flow: 1, Weight: 1, Start: 152 * scale})
	p.all(t, step{join, 2, 1})
	p.wantTags(t, api.Tag{Flow: 0, Weight: 5, Start: 151 * scale}, api.Tag{Flow: 1, Weight: 1, Start: 152 * scale}, api.Tag{Flow: 2, Weight: 1, Start: 151 * scale})
}

// TestRemembered checks that each of several flows is remembered with the start tag that it had when it left last, until the reference becomes idle, and that it is not one of the active ones meanwhile.
func TestRemembered(t *testing.T) {
	for last := range 4 {
		p := newPair(t, lastStart, 1, 1, 1, 1)
		for flow := range 4 {
			p.all(t, step{charge, flow, 10 * (flow + 1)})
		}
		for flow := range 4 {
			if flow != last {
				p.all(t, step{kind: leave, a: flow})
			}
		}
		p.wantTags(t, api.Tag{Flow: last, Weight: 1, Start: int64(last+1) * 10 * scale})
		p.wantSelect(t, last)
		again := p.copied()
		for flow := range 4 {
			if flow != last {
				again.all(t, step{join, flow, 2}, step{charge, flow, 2}, step{kind: leave, a: flow}, step{join, flow, 1})
			}
		}
		for flow, tag := range again.x.Tags() {
			want := api.Tag{Flow: flow, Weight: 1, Start: int64(flow+1)*10*scale + scale}
			if flow == last {
				want.Start -= scale
			}
			if tag != want {
				t.Errorf("the tag is %v, want %v", tag, want)
			}
		}
		p.all(t, step{charge, last, 500}, step{kind: leave, a: last})
		p.wantTags(t)
		p.wantTimes(t, 0, 0)
		for flow := range 4 {
			p.all(t, step{join, flow, 3})
		}
		p.wantTags(t, api.Tag{Flow: 0, Weight: 3}, api.Tag{Flow: 1, Weight: 3}, api.Tag{Flow: 2, Weight: 3}, api.Tag{Flow: 3, Weight: 3})
	}
}

// TestIdle checks that a reference which becomes idle begins anew, except for what has been subtracted since New and for its number of rebasing.
func TestIdle(t *testing.T) {
	p := newPair(t, 100*scale)
	rebased := int64(0)
	for i := range 10 {
		p.all(t, step{join, i, 1}, step{charge, i, 99}, step{charge, i, 7})
		p.wantTimes(t, 99*scale, rebased)
		p.all(t, step{charge, i, 7})
		rebased += 106 * scale
		p.wantTimes(t, 0, rebased)
		p.wantTags(t, api.Tag{Flow: i, Weight: 1, Start: 7 * scale})
		p.all(t, step{charge, i, 3})
		p.wantTimes(t, 7*scale, rebased)
		p.all(t, step{kind: leave, a: i})
		p.wantTimes(t, 0, rebased)
		p.wantTags(t)
		if flow, err := p.x.Select(); flow != 0 || err != api.ErrEmpty {
			t.Errorf("Select() = %d, %d, want 0, %d", flow, err, api.ErrEmpty)
		}
	}
}

// TestSetWeight checks SetWeight in P13.2: every change from one weight to another, which leaves the start tag as it is and decides what the next packet costs.
func TestSetWeight(t *testing.T) {
	for from := 1; from <= heaviest; from++ {
		for to := 1; to <= heaviest; to++ {
			p := newPair(t, lastStart, 5, from, 6)
			p.all(t, step{charge, 1, 70}, step{setWeight, 1, to})
			p.wantTags(t, api.Tag{Flow: 0, Weight: 5}, api.Tag{Flow: 1, Weight: to, Start: 70 * perByte[from]}, api.Tag{Flow: 2, Weight: 6})
			p.all(t, step{charge, 1, 9})
			p.wantTags(t, api.Tag{Flow: 0, Weight: 5}, api.Tag{Flow: 1, Weight: to, Start: 70*perByte[from] + 9*perByte[to]}, api.Tag{Flow: 2, Weight: 6})
			p.wantTimes(t, 70*perByte[from], 0)
			p.all(t, step{kind: leave, a: 1}, step{join, 1, from})
			p.wantTags(t, api.Tag{Flow: 0, Weight: 5}, api.Tag{Flow: 1, Weight: from, Start: 70*perByte[from] + 9*perByte[to]}, api.Tag{Flow: 2, Weight: 6})
		}
	}
}

// TestSetWeightErrors checks ErrInvalid of SetWeight in P13.2.
func TestSetWeightErrors(t *testing.T) {
	p := newPair(t, lastStart, 5, 6)
	p.all(t, step{charge, 1, 70})
	for flow := range 2 {
		for _, weight := range badWeights {
			p.want(t, step{setWeight, flow, weight}, api.ErrInvalid)
		}
	}
	p.wantTags(t, api.Tag{Flow: 0, Weight: 5}, api.Tag{Flow: 1, Weight: 6, Start: 70 * 120120})
}

// TestSelect checks P13.3 with all flows: equal tags, one flow before the others, and two of them, for each pair.
func TestSelect(t *testing.T) {
	full := newPair(t, lastStart, slices.Repeat([]int{1}, flowCount)...)
	full.wantSelect(t, 0)
	ahead := full.copied()
	for flow := range flowCount {
		ahead.all(t, step{charge, flow, 10})
		ahead.wantSelect(t, (flow+1)%flowCount)
	}
	for a := range flowCount {
		one := full.copied()
		for flow := range flowCount {
			if flow != a {
				one.all(t, step{charge, flow, 10})
			}
		}
		one.wantSelect(t, a)
		for b := range flowCount {
			p := one.copied()
			p.all(t, step{charge, a, 9})
			p.wantSelect(t, a)
			p.all(t, step{charge, a, 1})
			p.wantSelect(t, 0)
			p.all(t, step{charge, a, 1})
			if a == 0 {
				p.wantSelect(t, 1)
			}
			for flow := range flowCount {
				if flow != a && flow != b {
					p.all(t, step{charge, flow, 1})
				}
			}
			if a == b {
				p.wantSelect(t, 0)
				continue
			}
			p.wantSelect(t, b)
		}
	}
}

// TestSelectOfSet checks in P13.3 that only active flows are selected: all sets of five flows with equal tags.
func TestSelectOfSet(t *testing.T) {
	flows := []int{0, 1, 7, 30, 31}
	for set := 1; set < 1<<5; set++ {
		p := newPair(t, lastStart)
		least := -1
		for i, flow := range flows {
			p.all(t, step{join, flow, 1 + i})
		}
		for i, flow := range flows {
			switch {
			case set>>i&1 == 0:
				p.all(t, step{kind: leave, a: flow})
			case least < 0:
				least = flow
			}
		}
		p.wantSelect(t, least)
	}
}

// TestCharge checks the cost in P13.4 for all lengths and weights, on a flow beside another one.
func TestCharge(t *testing.T) {
	for weight := 1; weight <= heaviest; weight++ {
		for length := 1; length <= longest; length++ {
			p := newPair(t, lastStart, 3, weight)
			p.all(t, step{charge, 1, length})
			p.wantTags(t, api.Tag{Flow: 0, Weight: 3}, api.Tag{Flow: 1, Weight: weight, Start: int64(length) * perByte[weight]})
			p.wantTimes(t, 0, 0)
		}
	}
}

// TestChargeInvalid checks ErrInvalid in P13.4, also where the start tag is the greatest one.
func TestChargeInvalid(t *testing.T) {
	low, high := newPair(t, lastStart, 1, 1), newPair(t, lastStart, 1, 1)
	low.all(t, step{charge, 1, 100})
	high.raise(t, 1, lastStart)
	for _, p := range []pair{low, high} {
		for flow := range 2 {
			for _, length := range badLengths {
				p.want(t, step{charge, flow, length}, api.ErrInvalid)
			}
		}
	}
}

// TestChargeRange checks ErrRange in P13.4: the greatest start tag is reached exactly, one more is refused, and an error leaves the virtual time as it is.
func TestChargeRange(t *testing.T) {
	for weight := 1; weight <= heaviest; weight++ {
		for _, length := range []int{1, 2, 99, 4095, 4096} {
			last := lastStart - int64(length)*perByte[weight]
			fits, beyond := newPair(t, lastStart, 1, 1), newPair(t, lastStart, 1, 1)
			fits.raise(t, 1, last)
			fits.all(t, step{setWeight, 1, weight}, step{charge, 1, length})
			fits.wantTags(t, api.Tag{Flow: 0, Weight: 1}, api.Tag{Flow: 1, Weight: weight, Start: lastStart})
			fits.wantTimes(t, last, 0)
			for _, more := range []int{1, 2, 4096} {
				fits.want(t, step{charge, 1, more}, api.ErrRange)
			}
			beyond.raise(t, 1, last+1)
			time := beyond.x.Time()
			beyond.all(t, step{setWeight, 1, weight})
			beyond.want(t, step{charge, 1, length}, api.ErrRange)
			beyond.wantTags(t, api.Tag{Flow: 0, Weight: 1}, api.Tag{Flow: 1, Weight: weight, Start: last + 1})
			beyond.wantTimes(t, time, 0)
			// Another flow goes on.
			beyond.all(t, step{charge, 0, 1}, step{join, 2, 1})
			beyond.wantTimes(t, time, 0)
		}
	}
}

// TestRangeBeforeRebase checks that ErrRange in P13.4 comes first where the reference would be rebased, and that rebasing lets the same flow go on otherwise.
func TestRangeBeforeRebase(t *testing.T) {
	for _, rebase := range []int64{lastStart, lastStart - 1, lastStart - scale + 1} {
		for _, start := range []int64{rebase, rebase + 1, lastStart} {
			if start > lastStart {
				continue
			}
			p := newPair(t, rebase, 1)
			p.raise(t, 0, start)
			time := p.x.Time()
			for _, length := range []int{1, 2, 4096} {
				p.want(t, step{charge, 0, length}, api.ErrRange)
			}
			p.wantTags(t, api.Tag{Flow: 0, Weight: 1, Start: start})
			p.wantTimes(t, time, 0)
		}
	}
	p := newPair(t, lastStart-scale, 1)
	p.raise(t, 0, lastStart-scale)
	p.all(t, step{charge, 0, 1})
	p.wantTags(t, api.Tag{Flow: 0, Weight: 1, Start: scale})
	p.wantTimes(t, 0, lastStart-scale)
}

// TestTime checks the virtual time in P13.4: it becomes the tag before a packet only where that is greater, and no other method changes it but the last Leave.
func TestTime(t *testing.T) {
	p := newPair(t, lastStart, 1, 1, 1)
	for _, c := range []struct {
		s    step
		time int64
	}{
		{step{charge, 0, 50}, 0},
		{step{charge, 1, 60}, 0},
		{step{charge, 0, 50}, 50},
		{step{charge, 2, 40}, 50},
		{step{charge, 2, 40}, 50},
		{step{charge, 1, 1}, 60},
		{step{charge, 1, 1}, 61},
		{step{charge, 2, 1}, 80},
		{step{setWeight, 0, 16}, 80},
		{step{charge, 0, 16}, 100},
		{step{kind: leave, a: 0}, 100},
		{step{join, 3, 1}, 100},
		{step{charge, 1, 500}, 100},
		{step{charge, 3, 1}, 100},
		{step{kind: leave, a: 1}, 100},
		{step{charge, 3, 1}, 101},
		{step{kind: leave, a: 2}, 101},
		{step{join, 1, 1}, 101},
		{step{charge, 1, 1}, 562},
		{step{kind: leave, a: 1}, 562},
		{step{kind: leave, a: 3}, 0},
		{step{join, 1, 1}, 0},
	} {
		p.all(t, c.s)
		p.wantTimes(t, c.time*scale, 0)
	}
}

// TestRebase checks rebasing in P13.4 with tags that the test writes out: of active flows, of one that has left and is remembered, and of the same where it would be negative.
func TestRebase(t *testing.T) {
	p := newPair(t, 100*scale, 1, 1, 1)
	tags := func(starts ...int64) {
		t.Helper()
		var want []api.Tag
		for i, start := range starts {
			want = append(want, api.Tag{Flow: 3 + i - len(starts), Weight: 1, Start: start * scale})
		}
		p.wantTags(t, want...)
	}
	p.all(t, step{charge, 0, 300}, step{kind: leave, a: 0}, step{charge, 1, 120}, step{charge, 2, 130})
	p.wantTimes(t, 0, 0)
	p.all(t, step{charge, 1, 100})
	p.wantTimes(t, 0, 120*scale)
	tags(100, 10)
	p.all(t, step{join, 0, 1})
	tags(180, 100, 10)
	p.all(t, step{kind: leave, a: 0}, step{charge, 2, 200})
	p.wantTimes(t, 10*scale, 120*scale)
	tags(100, 210)
	p.all(t, step{charge, 1, 500})
	p.wantTimes(t, 0, 220*scale)
	tags(500, 110)
	remembered := p.copied()
	remembered.all(t, step{join, 0, 1})
	remembered.wantTags(t, api.Tag{Flow: 0, Weight: 1, Start: 80 * scale}, api.Tag{Flow: 1, Weight: 1, Start: 500 * scale}, api.Tag{Flow: 2, Weight: 1, Start: 110 * scale})
	p.all(t, step{charge, 2, 400})
	p.wantTimes(t, 0, 330*scale)
	tags(390, 400)
	p.all(t, step{join, 0, 1})
	tags(0, 390, 400)
	// The least tag is less than the virtual time, and decides.
	p.all(t, step{charge, 0, 101}, step{charge, 1, 1})
	p.wantTimes(t, 289*scale, 431*scale)
	tags(0, 290, 299)
	p.all(t, step{charge, 0, 99}, step{charge, 1, 1})
	p.wantTimes(t, 290*scale, 431*scale)
	tags(99, 291, 299)
	p.all(t, step{charge, 1, 1}, step{charge, 0, 1})
	p.wantTimes(t, 191*scale, 531*scale)
	tags(0, 192, 199)
}

// TestRebaseNumber checks in P13.4 that a reference is rebased from exactly its number on, where the virtual time decides and where the least start tag does.
func TestRebaseNumber(t *testing.T) {
	for _, rebase := range []int64{40 * scale, 12345678901, 1<<32 + 1, lastStart / 2, lastStart - 5000*scale} {
		for _, low := range []int64{rebase - 2, rebase - 1, rebase, rebase + 1, rebase + 2} {
			want := int64(0)
			if low >= rebase {
				want = low
			}
			byTime := newPair(t, rebase, 1)
			byTime.raise(t, 0, low)
			byTime.all(t, step{charge, 0, 7})
			byTime.wantTags(t, api.Tag{Flow: 0, Weight: 1, Start: low + 7*scale - want})
			byTime.wantTimes(t, low-want, want)

			byTag := newPair(t, rebase, 1, 1)
			byTag.raise(t, 0, low)
			byTag.raise(t, 1, low+4*scale)
			byTag.wantTags(t, api.Tag{Flow: 0, Weight: 1, Start: low}, api.Tag{Flow: 1, Weight: 1, Start: low + 4*scale})
			byTag.all(t, step{charge, 1, 9})
			byTag.wantTags(t, api.Tag{Flow: 0, Weight: 1, Start: low - want}, api.Tag{Flow: 1, Weight: 1, Start: low + 13*scale - want})
			byTag.wantTimes(t, low+4*scale-want, want)
		}
	}
}

// TestRebaseOnlyByCharge checks that a flow that leaves, joins or changes its weight does not let the reference be rebased, even if the least start tag becomes great enough.
func TestRebaseOnlyByCharge(t *testing.T) {
	p := newPair(t, 100*scale, 1, 1)
	p.all(t, step{charge, 1, 200}, step{charge, 1, 200}, step{kind: leave, a: 0})
	p.wantTimes(t, 200*scale, 0)
	p.wantTags(t, api.Tag{Flow: 1, Weight: 1, Start: 400 * scale})
	p.all(t, step{join, 2, 1}, step{setWeight, 1, 2})
	p.wantTimes(t, 200*scale, 0)
	p.want(t, step{charge, 1, 0}, api.ErrInvalid)
	p.want(t, step{charge, 0, 1}, api.ErrNotFound)
	p.wantTags(t, api.Tag{Flow: 1, Weight: 2, Start: 400 * scale}, api.Tag{Flow: 2, Weight: 1, Start: 200 * scale})
	p.all(t, step{charge, 1, 2})
	p.wantTimes(t, 200*scale, 200*scale)
	p.wantTags(t, api.Tag{Flow: 1, Weight: 2, Start: 201 * scale}, api.Tag{Flow: 2, Weight: 1})
}

// TestRebased checks in P13.5 that Rebased is the sum of all that has been subtracted: what each start tag lacks of the costs of its packets.
func TestRebased(t *testing.T) {
	source := rand.New(rand.NewPCG(133, 134))
	for _, rebase := range []int64{1, scale, 1 << 32, 1 << 34} {
		p := newPair(t, rebase, 1, 2, 3, 16)
		var costs [4]int64
		times := 0
		for range 3000 {
			flow, _ := p.x.Select()
			length := 1 + source.IntN(longest)
			before := p.x.Rebased()
			p.all(t, step{charge, flow, length})
			costs[flow] += int64(length) * perByte[[]int{1, 2, 3, 16}[flow]]
			if by := p.x.Rebased() - before; by != 0 {
				times++
				if by < rebase {
					t.Fatalf("%d has been subtracted, less than %d", by, rebase)
				}
			}
			for i, tag := range p.x.Tags() {
				if tag.Start+p.x.Rebased() != costs[i] {
					t.Fatalf("the start tag %d and %d that have been subtracted are not %d", tag.Start, p.x.Rebased(), costs[i])
				}
			}
		}
		if times < 10 {
			t.Errorf("the reference with the number %d has been rebased only %d times", rebase, times)
		}
	}
}

// randomNumber returns a number up to n, or now and then one that is not permitted.
func randomNumber(source *rand.Rand, n int, bad []int) int {
	if source.IntN(25) == 0 {
		return bad[source.IntN(len(bad))]
	}
	return 1 + source.IntN(n)
}

// randomStep returns a step with arguments that mostly are permitted, on the first flows. Of the kinds, those that come later are more frequent.
func randomStep(source *rand.Rand, flows int) step {
	s := step{kind: min(serve, source.IntN(12))}
	if s.kind == serve && source.IntN(3) == 0 {
		s.kind = charge
	}
	s.a = randomNumber(source, flows, badFlows)
	if s.a <= flows && s.a > 0 {
		s.a--
	}
	switch s.kind {
	case join, setWeight:
		s.b = randomNumber(source, heaviest>>source.IntN(5), badWeights)
	case charge, serve:
		s.b = randomNumber(source, longest>>(6*source.IntN(3)), badLengths)
	}
	return s
}

// rebases are numbers that rebase a reference with random steps always, often, seldom and never.
var rebases = []int64{1, scale, 1 << 28, 1 << 32, 1 << 36, lastStart}

// TestRandom compares references with the model, step by step, and checks that each step has each of its errors.
func TestRandom(t *testing.T) {
	source := rand.New(rand.NewPCG(135, 136))
	var counts [kinds][17]int
	for _, rebase := range rebases {
		for _, flows := range []int{1, 2, 3, 8, 32} {
			for range 3 {
				p := newPair(t, rebase)
				for range 1500 {
					s := randomStep(source, flows)
					counts[s.kind][p.run(t, s)]++
				}
			}
		}
		// The first flow is near the greatest start tag.
		for range 40 {
			p := newPair(t, rebase, 1, 1, 1)
			p.raise(t, 0, lastStart-1000*scale)
			for range 100 {
				s := randomStep(source, 3)
				counts[s.kind][p.run(t, s)]++
			}
		}
	}
	for kind, errs := range [kinds][]api.Errno{
		join:      {api.OK, api.ErrInvalid, api.ErrDuplicate},
		leave:     {api.OK, api.ErrNotFound},
		setWeight: {api.OK, api.ErrNotFound, api.ErrInvalid},
		charge:    {api.OK, api.ErrNotFound, api.ErrInvalid, api.ErrRange},
		serve:     {api.OK, api.ErrEmpty, api.ErrInvalid},
	} {
		for _, err := range errs {
			if counts[kind][err] < 50 {
				t.Errorf("steps of the kind %d had the error %d only %d times", kind, err, counts[kind][err])
			}
		}
	}
}

// TestSmall takes all sequences of five of nine steps on a new reference and on one with two flows. Each sequence goes on with a copy of the reference before it.
func TestSmall(t *testing.T) {
	steps := []step{{join, 0, 1}, {join, 1, 2}, {leave, 0, 0}, {leave, 1, 0}, {setWeight, 0, 3}, {charge, 0, 1}, {charge, 1, 3}, {serve, 0, 2}, {charge, 0, 4}}
	var grow func(p pair, depth int)
	grow = func(p pair, depth int) {
		if depth == 0 {
			return
		}
		for _, s := range steps {
			q := p.copied()
			q.run(t, s)
			grow(q, depth-1)
		}
	}
	for _, rebase := range []int64{1, scale, 3 * scale, lastStart} {
		p := newPair(t, rebase)
		grow(p, 5)
		p.all(t, step{join, 0, 1}, step{join, 1, 1})
		grow(p, 5)
	}
}

// TestCopy checks in P13.5 that a copy goes on as the reference does, and that neither changes the other, nor copies of copies.
func TestCopy(t *testing.T) {
	source := rand.New(rand.NewPCG(137, 138))
	for _, rebase := range rebases {
		for range 20 {
			pairs := []pair{newPair(t, rebase)}
			for range 100 {
				pairs[0].run(t, randomStep(source, 4))
			}
			for range 5 {
				pairs = append(pairs, pairs[source.IntN(len(pairs))].copied())
				for range 60 {
					pairs[source.IntN(len(pairs))].run(t, randomStep(source, 4))
				}
				for _, p := range pairs {
					p.check(t, "copy")
				}
			}
			same := []pair{pairs[0], pairs[0].copied(), pairs[0].copied()}
			for range 60 {
				s := randomStep(source, 4)
				for _, p := range same {
					p.run(t, s)
				}
			}
		}
	}
}

// TestCopyParts checks that a copy has each part of a reference for its own: the flows, their weights, what is remembered, the virtual time, what has been subtracted, and the number of rebasing.
func TestCopyParts(t *testing.T) {
	p := newPair(t, 100*scale, 1, 2, 4)
	p.all(t, step{charge, 0, 150}, step{charge, 1, 300}, step{charge, 2, 600}, step{charge, 0, 20}, step{charge, 2, 40}, step{charge, 1, 60}, step{kind: leave, a: 2})
	p.wantTimes(t, 0, 150*scale)
	changes := [][]step{
		{{join, 3, 1}},
		{{kind: leave, a: 0}},
		{{setWeight, 0, 7}},
		{{charge, 0, 500}},
		{{charge, 1, 500}},
		{{join, 2, 5}},
		{{kind: leave, a: 0}, {kind: leave, a: 1}},
		{{charge, 0, 500}, {charge, 0, 500}, {charge, 1, 1000}, {charge, 1, 1000}},
		{{join, 2, 1}, {charge, 2, 100}, {kind: leave, a: 2}},
	}
	for _, change := range changes {
		for _, other := range changes {
			a := p.copied()
			b := a.copied()
			a.all(t, change...)
			b.check(t, "the reference has changed")
			b.all(t, other...)
			a.check(t, "the copy has changed")
			for _, q := range []pair{a, b} {
				q.run(t, step{join, 0, 1})
				q.run(t, step{join, 1, 1})
				q.run(t, step{join, 2, 1})
				q.all(t, step{charge, 0, 3}, step{charge, 2, 3}, step{charge, 1, 3}, step{charge, 0, 3})
			}
		}
	}
	p.wantTimes(t, 0, 150*scale)
}

// TestOwnLists checks that the results of Tags share no memory with each other or with the reference: it changes a result, and the reference after that.
func TestOwnLists(t *testing.T) {
	for n := range flowCount {
		p := newPair(t, 1, slices.Repeat([]int{2}, n)...)
		first, second := p.x.Tags(), p.x.Tags()
		want := slices.Clone(second)
		for i := range first {
			first[i] = api.Tag{Flow: 77, Weight: 78, Start: 79}
		}
		_ = append(first, api.Tag{Flow: 80})
		p.check(t, "with a changed list")
		for flow := range n {
			p.all(t, step{setWeight, flow, 3}, step{charge, flow, 5}, step{charge, flow, 5})
		}
		p.all(t, step{join, n, 1})
		if !slices.Equal(second, want) {
			t.Errorf("%v has become %v", want, second)
		}
	}
}

// TestRead checks that the methods that read change nothing.
func TestRead(t *testing.T) {
	p := newPair(t, 10*scale, 1, 2, 3)
	p.all(t, step{charge, 0, 5}, step{charge, 0, 5}, step{charge, 1, 7}, step{kind: leave, a: 1})
	for range 5 {
		p.check(t, "read")
		p.copied().check(t, "read")
	}
	p.all(t, step{join, 1, 1}, step{charge, 2, 100}, step{charge, 2, 1})
	p.check(t, "after it")
}

// TestRepeated checks P2: the results depend only on the calls made before on the same reference, whatever is done with another one in between.
func TestRepeated(t *testing.T) {
	source := rand.New(rand.NewPCG(139, 140))
	randomSteps := func() (out []step) {
		for range 600 {
			out = append(out, randomStep(source, 6))
		}
		return out
	}
	for _, rebase := range rebases {
		steps := randomSteps()
		run := func(between func()) (out []any) {
			x, _ := sfq.New(rebase)
			for _, s := range steps {
				between()
				out = append(out, take(x, s), seen(x))
			}
			return out
		}
		other := newPair(t, 1).x
		want := run(func() {})
		for range 3 {
			noise := randomSteps()
			got := run(func() {
				take(other, noise[0])
				noise = noise[1:]
			})
			if !reflect.DeepEqual(got, want) {
				t.Errorf("rebase %d: the results depend on another reference", rebase)
			}
		}
	}
}

// served runs steps in which only selected flows are charged, and calls after each one that succeeds a function with the flow that was charged and the cost, or -1 and 0.
func served(t *testing.T, source *rand.Rand, p pair, steps int, after func(s step, flow int, cost int64)) {
	t.Helper()
	for range steps {
		s := randomStep(source, 5)
		if s.kind == charge {
			s.kind = serve
		}
		flow, weight := -1, 0
		if first, err := p.m.Select(); s.kind == serve && err == api.OK {
			flow, weight = first, p.m.weights[first]
		}
		if p.run(t, s) != api.OK {
			continue
		}
		after(s, flow, int64(s.b)*perByte[weight])
	}
}

// TestBounds checks the chapter's first consequence: if only selected flows are charged, each start tag is from the virtual time to the virtual time plus the cost of one packet. That packet is one of the flow's own, at the weight that it had then.
func TestBounds(t *testing.T) {
	source := rand.New(rand.NewPCG(141, 142))
	for _, rebase := range rebases {
		for range 20 {
			p := newPair(t, rebase, 1, 2, 3)
			var most [flowCount]int64
			served(t, source, p, 400, func(s step, flow int, cost int64) {
				if flow >= 0 {
					most[flow] = max(most[flow], cost)
				}
				for _, tag := range p.x.Tags() {
					if ahead := tag.Start - p.x.Time(); ahead < 0 || ahead > most[tag.Flow] {
						t.Fatalf("%v: the tag %v exceeds the virtual time %d by %d, its packets cost up to %d", s, tag, p.x.Time(), ahead, most[tag.Flow])
					}
				}
			})
		}
	}
}

// TestSelectAfterRebase checks the chapter's second consequence: references that differ only in their numbers of rebasing select the same flows, whichever flows are charged, and their tags differ from their virtual times by the same numbers.
func TestSelectAfterRebase(t *testing.T) {
	source := rand.New(rand.NewPCG(143, 144))
	for range 100 {
		var refs []*sfq.Ref
		for _, rebase := range rebases {
			refs = append(refs, newPair(t, rebase, 1, 2, 3).x)
		}
		for range 300 {
			s := randomStep(source, 5)
			var want view
			for i, x := range refs {
				err := take(x, s)
				if err == api.ErrRange {
					t.Fatalf("%v: %d", s, err)
				}
				got := seen(x)
				for k := range got.tags {
					got.tags[k].Start -= got.time
				}
				got.time, got.rebased = int64(err), 0
				if i == 0 {
					want = got
				}
				if !got.equals(want) {
					t.Fatalf("%v: rebased at %d: %+v, at %d: %+v", s, rebases[i], got, rebases[0], want)
				}
			}
		}
		if refs[0].Rebased() == 0 || refs[len(refs)-1].Rebased() != 0 {
			t.Fatalf("%d and %d have been subtracted", refs[0].Rebased(), refs[len(refs)-1].Rebased())
		}
	}
}

// TestFair checks the chapter's third consequence: in every interval in which two flows are active throughout, their normalized services differ by at most the cost of one packet of each, if only selected flows are charged.
func TestFair(t *testing.T) {
	source := rand.New(rand.NewPCG(145, 146))
	for range 40 {
		p := newPair(t, rebases[source.IntN(len(rebases))], 1+source.IntN(heaviest), 1+source.IntN(heaviest), 1+source.IntN(heaviest))
		// The two flows that are last remain with their weights; the others come and go.
		a, b := 30, 31
		p.all(t, step{join, a, 1 + source.IntN(heaviest)}, step{join, b, 1 + source.IntN(heaviest)})
		var services, most [flowCount]int64
		low, high := int64(0), int64(0)
		served(t, source, p, 400, func(s step, flow int, cost int64) {
			if flow < 0 {
				return
			}
			services[flow] += cost
			most[flow] = max(most[flow], cost)
			gap := services[a] - services[b]
			low, high = min(low, gap), max(high, gap)
			// The greatest difference in an interval is that of the greatest and the least difference from the beginning on.
			if high-low > most[a]+most[b] {
				t.Fatalf("the services of two flows differ by %d, and their packets cost up to %d and %d", high-low, most[a], most[b])
			}
		})
		if services[a] == 0 || services[b] == 0 {
			t.Error("a flow has not been served")
		}
	}
}
