package life_test

import (
	"math"
	"math/rand/v2"
	"slices"
	"testing"

	"airshare/api"
	"airshare/life"
)

// The limits, written out.
const (
	mostFlows  = 32
	mostLength = 4096
	mostLog    = 262144
)

// The states and the reasons, written out.
const (
	stNone      = 0
	stQueued    = 1
	stFlight    = 2
	stDelivered = 3
	stDropped   = 4

	full    = 1
	late    = 2
	tries   = 3
	removed = 4
)

// badFlows are not flows; some of their lower bits are those of flows.
var badFlows = []int{-1, -2, -31, -32, -33, 32, 33, 63, 64, 128, 255, 256, 257, 1 << 16, 1<<16 + 1, 1 << 31, 1 << 32, 1<<32 + 1, -1 << 32, 1 - 1<<32, math.MaxInt, math.MaxInt - 1, math.MinInt, math.MinInt + 1}

// badLengths are not lengths of packets; some of their lower bits are those of lengths.
var badLengths = []int{0, -1, -2, -100, -4096, 4097, 4098, 8192, 8193, 1 << 16, 1<<16 + 1, 1 << 31, 1 << 32, 1<<32 + 1, -1 << 32, 1 - 1<<32, math.MaxInt, math.MaxInt - 1, math.MinInt, math.MinInt + 1}

// badIDs are not numbers of packets in a table with few packets; some of their lower bits are those of such numbers.
var badIDs = []int{0, -1, -2, -3, -255, -256, 257, 1 << 16, 1<<16 + 1, 1<<16 + 2, 262144, 262145, 1 << 31, 1 << 32, 1<<32 + 1, 1<<32 + 2, -1 << 32, 1 - 1<<32, math.MaxInt, math.MaxInt - 1, math.MinInt, math.MinInt + 1, math.MinInt + 2}

// badReasons are not reasons of drops; some of their lower bits are those of reasons.
var badReasons = []int{0, -1, -2, -4, 5, 6, 7, 8, 9, 256, 257, 1 << 16, 1<<16 + 1, 1<<32 + 1, 1 - 1<<32, math.MaxInt, math.MaxInt - 1, math.MinInt, math.MinInt + 1}

// badStates are not states, or the one that no packet has.
var badStates = []int{0, -1, -2, -4, 5, 6, 7, 8, 9, 256, 257, 1 << 16, 1<<16 + 1, 1<<32 + 1, 1 - 1<<32, math.MaxInt, math.MaxInt - 1, math.MinInt, math.MinInt + 1}

// kinds of steps.
const (
	accept = iota
	refuse
	send
	deliver
	drop
)

// step is a call of a method that changes a table: a is the flow or the number of the packet, b the length or the reason.
type step struct {
	kind, a, b int
}

// model is a second wording of the chapter: it keeps what was done successfully and nothing else, and works out every answer from the beginning.
type model struct {
	done []step
}

// packet returns the step that accepted a packet; there is none if ok is false.
func (m *model) packet(id int) (accepted step, ok bool) {
	n := 0
	for _, s := range m.done {
		if s.kind == accept {
			n++
			if n == id {
				return s, true
			}
		}
	}
	return step{}, false
}

func (m *model) has(s step) bool {
	return slices.Contains(m.done, s)
}

func (m *model) reason(id int) int {
	for reason := full; reason <= removed; reason++ {
		if m.has(step{drop, id, reason}) {
			return reason
		}
	}
	return 0
}

func (m *model) state(id int) int {
	_, ok := m.packet(id)
	switch {
	case !ok:
		return stNone
	case m.has(step{kind: deliver, a: id}):
		return stDelivered
	case m.reason(id) > 0:
		return stDropped
	case m.has(step{kind: send, a: id}):
		return stFlight
	}
	return stQueued
}

// count returns the number of the steps for which a condition holds.
func (m *model) count(holds func(s step) bool) int {
	n := 0
	for _, s := range m.done {
		if holds(s) {
			n++
		}
	}
	return n
}

// order returns the delivered packets of a flow, and the sum of their lengths.
func (m *model) order(flow int) (ids []int, bytes int64) {
	for _, s := range m.done {
		if p, _ := m.packet(s.a); s.kind == deliver && p.a == flow {
			ids = append(ids, s.a)
			bytes += int64(p.b)
		}
	}
	return ids, bytes
}

// members returns the number of the packets of a flow in a state.
func (m *model) members(flow, state int) int {
	n := 0
	for id := range m.count(func(s step) bool { return s.kind == accept }) {
		if p, _ := m.packet(id + 1); p.a == flow && m.state(id+1) == state {
			n++
		}
	}
	return n
}

func (m *model) stats(flow int) api.Stats {
	order, bytes := m.order(flow)
	out := api.Stats{Delivered: len(order), Bytes: bytes}
	if flow >= 0 && flow < mostFlows {
		out.Flow = flow
	}
	out.Accepted = m.count(func(s step) bool { return s.kind == accept && s.a == flow })
	out.Dropped = m.members(flow, stDropped) + m.count(func(s step) bool { return s.kind == refuse && s.a == flow })
	return out
}

// errorOf returns the error of a step. The table of the model is never full.
func (m *model) errorOf(s step) api.Errno {
	switch s.kind {
	case accept:
		return errorIf(s.a < 0 || s.a >= mostFlows || s.b < 1 || s.b > mostLength, api.ErrInvalid)
	case refuse:
		return errorIf(s.a < 0 || s.a >= mostFlows, api.ErrInvalid)
	}
	state := m.state(s.a)
	if state == stNone {
		return api.ErrNotFound
	}
	p, _ := m.packet(s.a)
	order, _ := m.order(p.a)
	switch s.kind {
	case send:
		return errorIf(state > stFlight, api.ErrState)
	case deliver:
		if state != stFlight {
			return api.ErrState
		}
		return errorIf(slices.ContainsFunc(order, func(id int) bool { return id > s.a }), api.ErrInvalid)
	}
	if s.b < full || s.b > removed {
		return api.ErrInvalid
	}
	return errorIf(state > stFlight, api.ErrState)
}

// take takes a step and returns the number of an accepted packet, otherwise 0.
func (m *model) take(s step) (int, api.Errno) {
	if err := m.errorOf(s); err != api.OK {
		return 0, err
	}
	m.done = append(m.done, s)
	if s.kind != accept {
		return 0, api.OK
	}
	return m.count(func(s step) bool { return s.kind == accept }), api.OK
}

// errorIf returns an error if it applies.
func errorIf(applies bool, err api.Errno) api.Errno {
	if applies {
		return err
	}
	return api.OK
}

// take takes a step on a table and returns the number of an accepted packet, otherwise 0.
func take(t *life.Table, s step) (int, api.Errno) {
	switch s.kind {
	case accept:
		return t.Accept(s.a, s.b)
	case refuse:
		return 0, t.Refuse(s.a)
	case send:
		return 0, t.Send(s.a)
	case deliver:
		return 0, t.Deliver(s.a)
	}
	return 0, t.Drop(s.a, s.b)
}

// seen is all that a table tells of some packets and flows.
type seen struct {
	packets map[int][2]int
	counts  map[int][5]int
	stats   map[int]api.Stats
	orders  map[int][]int
}

// look reads a table.
func look(x *life.Table, ids, flows []int) seen {
	out := seen{map[int][2]int{}, map[int][5]int{}, map[int]api.Stats{}, map[int][]int{}}
	for _, id := range ids {
		out.packets[id] = [2]int{x.State(id), x.Reason(id)}
	}
	for _, flow := range flows {
		var counts [5]int
		for state := range counts {
			counts[state] = x.Count(flow, state)
		}
		out.counts[flow], out.stats[flow], out.orders[flow] = counts, x.Stats(flow), x.Order(flow)
	}
	return out
}

// lookModel reads a model.
func lookModel(m *model, ids, flows []int) seen {
	out := seen{map[int][2]int{}, map[int][5]int{}, map[int]api.Stats{}, map[int][]int{}}
	for _, id := range ids {
		out.packets[id] = [2]int{m.state(id), m.reason(id)}
	}
	for _, flow := range flows {
		order, _ := m.order(flow)
		counts := [5]int{0, m.members(flow, stQueued), m.members(flow, stFlight), m.members(flow, stDelivered), m.members(flow, stDropped)}
		out.counts[flow], out.stats[flow], out.orders[flow] = counts, m.stats(flow), order
	}
	return out
}

// equal compares what two tables tell of the same packets and flows.
func (a seen) equal(b seen) bool {
	for id, p := range a.packets {
		if b.packets[id] != p {
			return false
		}
	}
	for flow, counts := range a.counts {
		if b.counts[flow] != counts || b.stats[flow] != a.stats[flow] || !slices.Equal(b.orders[flow], a.orders[flow]) {
			return false
		}
	}
	return len(a.packets) == len(b.packets) && len(a.counts) == len(b.counts)
}

// pair is a table beside a model with the same calls.
type pair struct {
	x *life.Table
	m *model
}

func newPair() pair {
	return pair{life.New(), &model{}}
}

// run takes a step on both; the result must be the same.
func (p pair) run(t *testing.T, s step) api.Errno {
	t.Helper()
	before := p.m.done
	want, wantErr := p.m.take(s)
	got, err := take(p.x, s)
	if got != want || err != wantErr {
		t.Fatalf("%v after %v: %d, %d, want %d, %d", s, before, got, err, want, wantErr)
	}
	return err
}

// check compares what both tell of some packets and flows.
func (p pair) check(t *testing.T, ids, flows []int) {
	t.Helper()
	if got, want := look(p.x, ids, flows), lookModel(p.m, ids, flows); !got.equal(want) {
		t.Fatalf("after %v: %+v, want %+v", p.m.done, got, want)
	}
}

// flowsAndMore returns all flows and some numbers that are not flows.
func flowsAndMore() []int {
	out := slices.Clone(badFlows)
	for flow := range mostFlows {
		out = append(out, flow)
	}
	return out
}

// upTo returns the numbers of packets up to n and some numbers that are none.
func upTo(n int) []int {
	var out []int
	for id := range n + 3 {
		out = append(out, id)
	}
	for _, id := range badIDs {
		if id > n || id < 0 {
			out = append(out, id)
		}
	}
	return out
}

// mustTake takes steps that have no error.
func mustTake(t *testing.T, x *life.Table, steps ...step) {
	t.Helper()
	for _, s := range steps {
		if _, err := take(x, s); err != api.OK {
			t.Fatalf("%v: %d", s, err)
		}
	}
}

// wantErr takes a step that has this error and changes nothing that can be seen.
func wantErr(t *testing.T, x *life.Table, s step, want api.Errno) {
	t.Helper()
	ids, flows := upTo(12), flowsAndMore()
	was := look(x, ids, flows)
	if n, err := take(x, s); n != 0 || err != want {
		t.Fatalf("%v: %d, %d, want 0, %d", s, n, err, want)
	}
	if is := look(x, ids, flows); !is.equal(was) {
		t.Fatalf("%v: %+v has become %+v", s, was, is)
	}
}

// wantPacket checks the state and the reason of a packet.
func wantPacket(t *testing.T, x *life.Table, id, state, reason int) {
	t.Helper()
	if s, r := x.State(id), x.Reason(id); s != state || r != reason {
		t.Fatalf("packet %d: State = %d, Reason = %d, want %d, %d", id, s, r, state, reason)
	}
}

// wantFlow checks all that is told of a flow: its packets that are queued, in flight, delivered and dropped, and the refused ones.
func wantFlow(t *testing.T, x *life.Table, flow int, counts [4]int, refused int, bytes int64, order ...int) {
	t.Helper()
	for i, want := range counts {
		if got := x.Count(flow, i+1); got != want {
			t.Fatalf("Count(%d, %d) = %d, want %d", flow, i+1, got, want)
		}
	}
	want := api.Stats{Flow: flow, Accepted: counts[0] + counts[1] + counts[2] + counts[3], Delivered: counts[2], Dropped: counts[3] + refused, Bytes: bytes}
	if got := x.Stats(flow); got != want {
		t.Fatalf("Stats(%d) = %+v, want %+v", flow, got, want)
	}
	if got := x.Order(flow); !slices.Equal(got, order) {
		t.Fatalf("Order(%d) = %v, want %v", flow, got, order)
	}
}

// TestExamples checks the chapter's examples.
func TestExamples(t *testing.T) {
	x := life.New()
	if id, err := x.Accept(0, 100); id != 1 || err != api.OK {
		t.Fatalf("Accept(0, 100) = %d, %d", id, err)
	}
	wantErr(t, x, step{deliver, 1, 0}, api.ErrState)
	mustTake(t, x, step{send, 1, 0}, step{deliver, 1, 0})
	wantErr(t, x, step{drop, 1, tries}, api.ErrState)
	wantFlow(t, x, 0, [4]int{0, 0, 1, 0}, 0, 100, 1)
}

// TestNames checks that the states and reasons that are written out here are those of api.
func TestNames(t *testing.T) {
	got := []int{stNone, stQueued, stFlight, stDelivered, stDropped, full, late, tries, removed, mostFlows, mostLength, mostLog}
	want := []int{api.LifeNone, api.LifeQueued, api.LifeFlight, api.LifeDelivered, api.LifeDropped, api.DropFull, api.DropLate, api.DropTries, api.DropRemoved, api.MaxFlows, api.MaxLength, api.MaxLog}
	if !slices.Equal(got, want) {
		t.Errorf("%v, want %v", got, want)
	}
}

// TestNew checks P18.1: a new table has no packets, whatever is asked.
func TestNew(t *testing.T) {
	x := life.New()
	if x == nil {
		t.Fatal("New() = nil")
	}
	for _, id := range upTo(3) {
		wantPacket(t, x, id, stNone, 0)
		wantErr(t, x, step{send, id, 0}, api.ErrNotFound)
		wantErr(t, x, step{deliver, id, 0}, api.ErrNotFound)
		for reason := -1; reason <= 5; reason++ {
			wantErr(t, x, step{drop, id, reason}, api.ErrNotFound)
		}
	}
	for flow := range mostFlows {
		wantFlow(t, x, flow, [4]int{}, 0, 0)
	}
}

// TestNumbers checks P18.1: numbers count up from 1 over all flows, without a gap for errors or refused packets, and go on after packets have been delivered and dropped.
func TestNumbers(t *testing.T) {
	x := life.New()
	for id := 1; id <= 600; id++ {
		flow := id * 7 % mostFlows
		if got, err := x.Accept(flow, id); got != id || err != api.OK {
			t.Fatalf("Accept(%d, %d) = %d, %d, want %d", flow, id, got, err, id)
		}
		wantPacket(t, x, id, stQueued, 0)
		wantPacket(t, x, id+1, stNone, 0)
		if got, err := x.Accept(flow, 0); got != 0 || err != api.ErrInvalid {
			t.Fatalf("Accept(%d, 0) = %d, %d", flow, got, err)
		}
		if got, err := x.Accept(mostFlows, id); got != 0 || err != api.ErrInvalid {
			t.Fatalf("Accept(%d, %d) = %d, %d", mostFlows, id, got, err)
		}
		switch id % 4 {
		case 0:
			mustTake(t, x, step{drop, id, late})
		case 1:
			mustTake(t, x, step{send, id, 0}, step{deliver, id, 0})
		case 2:
			mustTake(t, x, step{refuse, flow, 0})
		}
	}
}

// TestFlows checks each flow alone: what is done to its packets is counted there and nowhere else.
func TestFlows(t *testing.T) {
	for flow := range mostFlows {
		x := life.New()
		for length := 11; length <= 16; length++ {
			mustTake(t, x, step{accept, flow, length})
		}
		wantFlow(t, x, flow, [4]int{6, 0, 0, 0}, 0, 0)
		mustTake(t, x, step{refuse, flow, 0}, step{send, 1, 0}, step{send, 2, 0}, step{send, 4, 0}, step{send, 6, 0})
		wantFlow(t, x, flow, [4]int{2, 4, 0, 0}, 1, 0)
		mustTake(t, x, step{deliver, 2, 0}, step{drop, 1, tries}, step{drop, 5, removed}, step{deliver, 4, 0}, step{refuse, flow, 0})
		wantFlow(t, x, flow, [4]int{1, 1, 2, 2}, 2, 12+14, 2, 4)
		for other := range mostFlows {
			if other != flow {
				wantFlow(t, x, other, [4]int{}, 0, 0)
			}
		}
		for i, want := range [][2]int{{stNone, 0}, {stDropped, tries}, {stDelivered, 0}, {stQueued, 0}, {stDelivered, 0}, {stDropped, removed}, {stFlight, 0}, {stNone, 0}} {
			wantPacket(t, x, i, want[0], want[1])
		}
	}
}

// TestAcceptInvalid checks ErrInvalid of Accept for each argument and for both, and that it has no effect.
func TestAcceptInvalid(t *testing.T) {
	x := life.New()
	mustTake(t, x, step{accept, 0, 1}, step{accept, 31, 4096}, step{accept, 1, 1})
	for _, bad := range badFlows {
		for _, length := range append([]int{1, 100, 4096}, badLengths...) {
			wantErr(t, x, step{accept, bad, length}, api.ErrInvalid)
		}
	}
	for _, bad := range badLengths {
		for _, flow := range []int{0, 1, 16, 31} {
			wantErr(t, x, step{accept, flow, bad}, api.ErrInvalid)
		}
	}
	if id, err := x.Accept(2, 50); id != 4 || err != api.OK {
		t.Errorf("Accept(2, 50) = %d, %d, want 4", id, err)
	}
}

// TestLengths checks that every length is permitted, and counted when its packet is delivered, not before.
func TestLengths(t *testing.T) {
	x := life.New()
	total := int64(0)
	for length := 1; length <= mostLength; length++ {
		if id, err := x.Accept(5, length); id != length || err != api.OK {
			t.Fatalf("Accept(5, %d) = %d, %d", length, id, err)
		}
		mustTake(t, x, step{send, length, 0})
		if got := x.Stats(5).Bytes; got != total {
			t.Fatalf("Bytes = %d with %d in flight, want %d", got, length, total)
		}
		if length%3 == 0 {
			mustTake(t, x, step{drop, length, tries})
		} else {
			mustTake(t, x, step{deliver, length, 0})
			total += int64(length)
		}
		if got := x.Stats(5).Bytes; got != total {
			t.Fatalf("Bytes = %d after %d, want %d", got, length, total)
		}
	}
}

// TestRefuse checks P18.1: Refuse counts dropped packets of each flow, gives no number, and has its error.
func TestRefuse(t *testing.T) {
	x := life.New()
	mustTake(t, x, step{accept, 3, 70})
	for flow := range mostFlows {
		for range flow + 1 {
			mustTake(t, x, step{refuse, flow, 0})
		}
	}
	for flow := range mostFlows {
		queued := 0
		if flow == 3 {
			queued = 1
		}
		wantFlow(t, x, flow, [4]int{queued, 0, 0, 0}, flow+1, 0)
	}
	for _, bad := range badFlows {
		wantErr(t, x, step{refuse, bad, 0}, api.ErrInvalid)
	}
	if id, err := x.Accept(3, 70); id != 2 || err != api.OK {
		t.Errorf("Accept(3, 70) = %d, %d, want 2", id, err)
	}
	wantPacket(t, x, 3, stNone, 0)
}

// TestManyRefused checks that more packets can be refused than accepted.
func TestManyRefused(t *testing.T) {
	x := life.New()
	for range mostLog + 10 {
		mustTake(t, x, step{refuse, 8, 0})
	}
	wantFlow(t, x, 8, [4]int{}, mostLog+10, 0)
	mustTake(t, x, step{accept, 8, 1}, step{drop, 1, full})
	wantFlow(t, x, 8, [4]int{0, 0, 0, 1}, mostLog+10, 0)
}

// prepare returns a table in which packet 1 (of two of flow 6) is in a state, with a reason if it has been dropped, and was sent before that or not.
func prepare(t *testing.T, state, reason int, sent bool) *life.Table {
	t.Helper()
	x := life.New()
	mustTake(t, x, step{accept, 6, 40}, step{accept, 6, 50}, step{send, 2, 0})
	if sent {
		mustTake(t, x, step{send, 1, 0})
	}
	switch state {
	case stDelivered:
		mustTake(t, x, step{deliver, 1, 0})
	case stDropped:
		mustTake(t, x, step{drop, 1, reason})
	}
	wantPacket(t, x, 1, state, reason)
	return x
}

// ended returns all ways in which packet 1 of prepare can have ended.
func ended(t *testing.T) []*life.Table {
	out := []*life.Table{prepare(t, stDelivered, 0, true)}
	for reason := full; reason <= removed; reason++ {
		out = append(out, prepare(t, stDropped, reason, true), prepare(t, stDropped, reason, false))
	}
	return out
}

// TestSend checks Send in P18.2 in each state.
func TestSend(t *testing.T) {
	x := prepare(t, stQueued, 0, false)
	wantFlow(t, x, 6, [4]int{1, 1, 0, 0}, 0, 0)
	mustTake(t, x, step{send, 1, 0})
	for range 20 {
		wantPacket(t, x, 1, stFlight, 0)
		wantPacket(t, x, 2, stFlight, 0)
		wantFlow(t, x, 6, [4]int{0, 2, 0, 0}, 0, 0)
		wantErr(t, x, step{send, 1, 0}, api.OK)
	}
	for _, x := range ended(t) {
		wantErr(t, x, step{send, 1, 0}, api.ErrState)
	}
	for _, x := range append(ended(t), x) {
		for _, id := range badIDs {
			wantErr(t, x, step{send, id, 0}, api.ErrNotFound)
		}
		wantErr(t, x, step{send, 3, 0}, api.ErrNotFound)
	}
}

// TestDeliver checks Deliver in P18.2 in each state.
func TestDeliver(t *testing.T) {
	x := prepare(t, stQueued, 0, false)
	wantErr(t, x, step{deliver, 1, 0}, api.ErrState)
	mustTake(t, x, step{send, 1, 0}, step{send, 1, 0}, step{deliver, 1, 0})
	wantPacket(t, x, 1, stDelivered, 0)
	wantPacket(t, x, 2, stFlight, 0)
	wantFlow(t, x, 6, [4]int{0, 1, 1, 0}, 0, 40, 1)
	for _, x := range append(ended(t), x) {
		wantErr(t, x, step{deliver, 1, 0}, api.ErrState)
		for _, id := range badIDs {
			wantErr(t, x, step{deliver, id, 0}, api.ErrNotFound)
		}
		wantErr(t, x, step{deliver, 3, 0}, api.ErrNotFound)
	}
}

// TestDrop checks Drop in P18.2 in each state, with each reason, and the order of its errors.
func TestDrop(t *testing.T) {
	for reason := full; reason <= removed; reason++ {
		for _, sent := range []bool{false, true} {
			x := prepare(t, stQueued+boolToInt(sent), 0, sent)
			for _, bad := range badReasons {
				wantErr(t, x, step{drop, 1, bad}, api.ErrInvalid)
			}
			mustTake(t, x, step{drop, 1, reason})
			wantPacket(t, x, 1, stDropped, reason)
			wantPacket(t, x, 2, stFlight, 0)
			wantFlow(t, x, 6, [4]int{0, 1, 0, 1}, 0, 0)
		}
	}
	for _, x := range ended(t) {
		for reason := full; reason <= removed; reason++ {
			wantErr(t, x, step{drop, 1, reason}, api.ErrState)
			wantErr(t, x, step{drop, 3, reason}, api.ErrNotFound)
		}
		for _, bad := range badReasons {
			wantErr(t, x, step{drop, 1, bad}, api.ErrInvalid)
			wantErr(t, x, step{drop, 3, bad}, api.ErrNotFound)
		}
		for _, id := range badIDs {
			wantErr(t, x, step{drop, id, late}, api.ErrNotFound)
			wantErr(t, x, step{drop, id, 0}, api.ErrNotFound)
			wantErr(t, x, step{drop, id, 5}, api.ErrNotFound)
		}
	}
}

func boolToInt(b bool) int {
	if b {
		return 1
	}
	return 0
}

// TestOrderOfDeliveries checks ErrInvalid of Deliver in P18.2: it depends on the delivered packets of the same flow with a greater number and on nothing else, and comes after ErrState.
func TestOrderOfDeliveries(t *testing.T) {
	x := life.New()
	for _, flow := range []int{4, 4, 4, 9, 4, 9, 4, 4} {
		mustTake(t, x, step{accept, flow, 10})
	}
	for _, id := range []int{1, 3, 4, 5, 6, 7} {
		mustTake(t, x, step{send, id, 0})
	}
	// A greater number that is in flight, dropped or of another flow does not matter.
	mustTake(t, x, step{drop, 7, tries}, step{deliver, 6, 0}, step{deliver, 3, 0})
	wantErr(t, x, step{deliver, 1, 0}, api.ErrInvalid)
	wantErr(t, x, step{deliver, 4, 0}, api.ErrInvalid)
	wantErr(t, x, step{deliver, 2, 0}, api.ErrState)
	wantErr(t, x, step{deliver, 3, 0}, api.ErrState)
	mustTake(t, x, step{send, 2, 0})
	wantErr(t, x, step{deliver, 2, 0}, api.ErrInvalid)
	mustTake(t, x, step{deliver, 5, 0})
	for _, id := range []int{1, 2, 4} {
		wantErr(t, x, step{deliver, id, 0}, api.ErrInvalid)
		wantPacket(t, x, id, stFlight, 0)
		wantErr(t, x, step{send, id, 0}, api.OK)
	}
	// What cannot be delivered any more can be dropped.
	mustTake(t, x, step{drop, 2, late})
	wantErr(t, x, step{deliver, 2, 0}, api.ErrState)
	wantErr(t, x, step{deliver, 7, 0}, api.ErrState)
	mustTake(t, x, step{send, 8, 0}, step{deliver, 8, 0})
	wantErr(t, x, step{deliver, 1, 0}, api.ErrInvalid)
	wantErr(t, x, step{deliver, 4, 0}, api.ErrInvalid)
	wantErr(t, x, step{deliver, 5, 0}, api.ErrState)
	wantFlow(t, x, 4, [4]int{0, 1, 3, 2}, 0, 30, 3, 5, 8)
	wantFlow(t, x, 9, [4]int{0, 1, 1, 0}, 0, 10, 6)
}

// visitOrders calls visit with all orders of the numbers from 1 to n.
func visitOrders(n int, visit func(order []int)) {
	var extend func(order []int)
	extend = func(order []int) {
		if len(order) == n {
			visit(order)
		}
		for i := 1; i <= n; i++ {
			if !slices.Contains(order, i) {
				extend(append(slices.Clone(order), i))
			}
		}
	}
	extend(nil)
}

// TestAllOrders delivers six packets in all orders: of one flow, those are delivered that are greater than all before; of six flows, all of them.
func TestAllOrders(t *testing.T) {
	visitOrders(6, func(order []int) {
		one, six := life.New(), life.New()
		for id := 1; id <= 6; id++ {
			mustTake(t, one, step{accept, 20, id}, step{send, id, 0})
			mustTake(t, six, step{accept, 20 + id, id}, step{send, id, 0})
		}
		var want []int
		bytes, greatest := int64(0), 0
		for _, id := range order {
			if err := one.Deliver(id); err != errorIf(id < greatest, api.ErrInvalid) {
				t.Fatalf("Deliver(%d) = %d after %d in %v", id, err, greatest, order)
			}
			if id > greatest {
				greatest, want, bytes = id, append(want, id), bytes+int64(id)
			}
			mustTake(t, six, step{deliver, id, 0})
		}
		wantFlow(t, one, 20, [4]int{0, 6 - len(want), len(want), 0}, 0, bytes, want...)
		for id := 1; id <= 6; id++ {
			wantFlow(t, six, 20+id, [4]int{0, 0, 1, 0}, 0, int64(id), id)
		}
	})
}

// TestInvalidReads checks P18.3 and P18.4 for what is not a flow, not a state or not a packet.
func TestInvalidReads(t *testing.T) {
	x := life.New()
	for flow := range mostFlows {
		for range 5 {
			mustTake(t, x, step{accept, flow, 10})
		}
		first := 5*flow + 1
		mustTake(t, x, step{send, first, 0}, step{send, first + 1, 0}, step{deliver, first + 1, 0}, step{drop, first + 2, removed}, step{refuse, flow, 0})
		for _, bad := range badStates {
			if got := x.Count(flow, bad); got != 0 {
				t.Errorf("Count(%d, %d) = %d", flow, bad, got)
			}
		}
		wantFlow(t, x, flow, [4]int{2, 1, 1, 1}, 1, 10, first+1)
	}
	for _, bad := range badFlows {
		for state := -1; state <= 5; state++ {
			if got := x.Count(bad, state); got != 0 {
				t.Errorf("Count(%d, %d) = %d", bad, state, got)
			}
		}
		if got := x.Stats(bad); got != (api.Stats{}) {
			t.Errorf("Stats(%d) = %+v", bad, got)
		}
		if got := x.Order(bad); len(got) > 0 {
			t.Errorf("Order(%d) = %v", bad, got)
		}
	}
	for _, id := range badIDs {
		if id < 1 || id > 5*mostFlows {
			wantPacket(t, x, id, stNone, 0)
		}
	}
}

// fill returns a table with MaxLog packets: that with the number id is of the flow id % 32.
func fill(t *testing.T) *life.Table {
	t.Helper()
	x := life.New()
	for id := 1; id <= mostLog; id++ {
		if got, err := x.Accept(id%mostFlows, 1+id%mostLength); got != id || err != api.OK {
			t.Fatalf("Accept = %d, %d, want %d", got, err, id)
		}
	}
	return x
}

// checkFull checks the errors of Accept on a full table, and that a packet can still be refused.
func checkFull(t *testing.T, x *life.Table) {
	t.Helper()
	for flow := range mostFlows {
		for _, length := range []int{1, 100, 4096} {
			wantErr(t, x, step{accept, flow, length}, api.ErrFull)
		}
		was := x.Stats(flow)
		mustTake(t, x, step{refuse, flow, 0})
		was.Dropped++
		if got := x.Stats(flow); got != was {
			t.Fatalf("Stats = %+v after Refuse, want %+v", got, was)
		}
	}
	for _, bad := range badFlows {
		wantErr(t, x, step{accept, bad, 1}, api.ErrInvalid)
		wantErr(t, x, step{refuse, bad, 0}, api.ErrInvalid)
	}
	for _, bad := range badLengths {
		wantErr(t, x, step{accept, 1, bad}, api.ErrInvalid)
	}
	wantPacket(t, x, mostLog+1, stNone, 0)
	wantErr(t, x, step{send, mostLog + 1, 0}, api.ErrNotFound)
}

// TestFull checks ErrFull in P18.1: MaxLog packets can be accepted, and no more when they have ended; all of them are told apart.
func TestFull(t *testing.T) {
	x := fill(t)
	for flow := range mostFlows {
		wantFlow(t, x, flow, [4]int{mostLog / mostFlows, 0, 0, 0}, 0, 0)
	}
	checkFull(t, x)
	// Of each eight packets, one remains queued, one in flight, two are delivered and four dropped with the four reasons.
	for id := 1; id <= mostLog; id++ {
		switch kind := id / mostFlows % 8; kind {
		case 1:
			mustTake(t, x, step{send, id, 0})
		case 2, 3:
			mustTake(t, x, step{send, id, 0}, step{deliver, id, 0})
		case 4, 5, 6, 7:
			mustTake(t, x, step{drop, id, kind - 3})
		}
	}
	for id := 1; id <= mostLog; id++ {
		want := [][2]int{{stQueued, 0}, {stFlight, 0}, {stDelivered, 0}, {stDelivered, 0}, {stDropped, full}, {stDropped, late}, {stDropped, tries}, {stDropped, removed}}[id/mostFlows%8]
		wantPacket(t, x, id, want[0], want[1])
	}
	for flow := range mostFlows {
		var order []int
		bytes := int64(0)
		for id := flow; id <= mostLog; id += mostFlows {
			if kind := id / mostFlows % 8; kind == 2 || kind == 3 {
				order, bytes = append(order, id), bytes+int64(1+id%mostLength)
			}
		}
		each := mostLog / mostFlows / 8
		wantFlow(t, x, flow, [4]int{each, each, 2 * each, 4 * each}, 1, bytes, order...)
	}
	checkFull(t, x)
	wantErr(t, x, step{deliver, mostFlows, 0}, api.ErrInvalid)
}

// TestFullDelivered checks that a table whose packets have all been delivered is full, that it forgets none of them, and the greatest sum of lengths.
func TestFullDelivered(t *testing.T) {
	x := life.New()
	for id := 1; id <= mostLog; id++ {
		mustTake(t, x, step{accept, 31, mostLength}, step{send, id, 0}, step{deliver, id, 0})
	}
	if got := x.Order(31); len(got) != mostLog || got[0] != 1 || got[mostLog-1] != mostLog || !slices.IsSorted(got) {
		t.Errorf("Order has %d numbers", len(got))
	}
	if got, want := x.Stats(31), (api.Stats{Flow: 31, Accepted: mostLog, Delivered: mostLog, Bytes: 1 << 30}); got != want {
		t.Errorf("Stats = %+v, want %+v", got, want)
	}
	wantErr(t, x, step{accept, 31, 1}, api.ErrFull)
	wantErr(t, x, step{accept, 0, 1}, api.ErrFull)
	for id := 1; id <= mostLog; id++ {
		wantPacket(t, x, id, stDelivered, 0)
		if err := x.Deliver(id); err != api.ErrState {
			t.Fatalf("Deliver(%d) = %d once more", id, err)
		}
	}
}

// TestShort runs all sequences of five steps on three packets of two flows, however these belong to the flows, and all of five steps on a table without packets.
func TestShort(t *testing.T) {
	for owners := range 8 {
		first := []step{{accept, owners & 1, 1}, {accept, owners >> 1 & 1, 20}, {accept, owners >> 2 & 1, 300}}
		steps := []step{{send, 1, 0}, {send, 2, 0}, {send, 3, 0}, {deliver, 1, 0}, {deliver, 2, 0}, {deliver, 3, 0}, {drop, 1, late}, {drop, 2, full}}
		runAll(t, first, steps, 5)
	}
	steps := []step{{accept, 0, 5}, {accept, 1, 60}, {refuse, 1, 0}, {send, 1, 0}, {send, 2, 0}, {deliver, 1, 0}, {deliver, 2, 0}, {drop, 1, tries}, {drop, 2, removed}}
	runAll(t, nil, steps, 5)
}

// runAll takes the first steps and then each sequence of a length.
func runAll(t *testing.T, first, steps []step, length int) {
	t.Helper()
	sequences := 1
	for range length {
		sequences *= len(steps)
	}
	for sequence := range sequences {
		p := newPair()
		for _, s := range first {
			p.run(t, s)
		}
		rest := sequence
		for range length {
			p.run(t, steps[rest%len(steps)])
			rest /= len(steps)
		}
		p.check(t, []int{0, 1, 2, 3, 4}, []int{0, 1, 2})
	}
}

// randomStep returns a step for a table with some packets, mostly one whose arguments are permitted.
func randomStep(source *rand.Rand, packets, flows int) step {
	s := step{kind: source.IntN(5)}
	if s.kind == accept || s.kind == refuse {
		s.a = source.IntN(flows) * (mostFlows - 1) / max(1, flows-1)
		s.b = 1 + source.IntN(mostLength)
	} else {
		// Early packets come up more often, because they were sent more often.
		s.a = 1 + source.IntN(1+source.IntN(packets+1))
		s.b = full + source.IntN(4)
	}
	if source.IntN(3) == 0 && s.kind == drop {
		s.kind = send
	}
	switch source.IntN(60) {
	case 0:
		s.a = badFlows[source.IntN(len(badFlows))]
	case 1:
		s.a = badIDs[source.IntN(len(badIDs))]
	case 2:
		s.b = badReasons[source.IntN(len(badReasons))]
	case 3:
		s.b = badLengths[source.IntN(len(badLengths))]
	}
	if s.kind != accept && s.kind != drop {
		s.b = 0
	}
	return s
}

// TestRandom compares tables with the model, step by step, and checks that each kind of result comes up.
func TestRandom(t *testing.T) {
	source := rand.New(rand.NewPCG(181, 1))
	counts := map[[2]int]int{}
	for _, flows := range []int{1, 2, 3, 5, 32} {
		for range 8 {
			p := newPair()
			packets := 0
			for range 150 {
				s := randomStep(source, packets, flows)
				err := p.run(t, s)
				if s.kind == accept && err == api.OK {
					packets++
				}
				counts[[2]int{s.kind, int(err)}]++
				p.check(t, upTo(packets), []int{-1, 0, 1, 8, 15, 16, 23, 31, 32})
			}
			p.check(t, upTo(packets), flowsAndMore())
		}
	}
	for _, c := range []struct {
		kind int
		errs []api.Errno
	}{
		{accept, []api.Errno{api.OK, api.ErrInvalid}},
		{refuse, []api.Errno{api.OK, api.ErrInvalid}},
		{send, []api.Errno{api.OK, api.ErrNotFound, api.ErrState}},
		{deliver, []api.Errno{api.OK, api.ErrNotFound, api.ErrState, api.ErrInvalid}},
		{drop, []api.Errno{api.OK, api.ErrNotFound, api.ErrState, api.ErrInvalid}},
	} {
		for _, err := range c.errs {
			if n := counts[[2]int{c.kind, int(err)}]; n < 10 {
				t.Errorf("steps of the kind %d had the result %d only %d times", c.kind, err, n)
			}
		}
	}
}

// TestConsequences checks both consequences in long runs: the states add up, and packets are delivered in ascending order, none twice.
func TestConsequences(t *testing.T) {
	source := rand.New(rand.NewPCG(182, 1))
	for _, flows := range []int{1, 3, 32} {
		x := life.New()
		packets := 0
		var accepted [mostFlows]int
		var orders [mostFlows][]int
		owners := []int{-1}
		for range 60000 {
			s := randomStep(source, min(packets, 300), flows)
			if s.kind > refuse && s.a > 0 && s.a <= 300 {
				s.a += max(0, packets-300)
			}
			id, err := take(x, s)
			switch {
			case err != api.OK:
			case s.kind == accept:
				packets = id
				accepted[s.a]++
				owners = append(owners, s.a)
			case s.kind == deliver:
				flow := owners[s.a]
				orders[flow] = append(orders[flow], s.a)
				checkAscending(t, orders[flow])
			}
		}
		for flow := range mostFlows {
			sum := 0
			for state := stQueued; state <= stDropped; state++ {
				sum += x.Count(flow, state)
			}
			if got := x.Stats(flow).Accepted; got != accepted[flow] || sum != accepted[flow] {
				t.Errorf("flow %d: Accepted = %d, sum = %d, want %d", flow, got, sum, accepted[flow])
			}
			if got := x.Order(flow); !slices.Equal(got, orders[flow]) {
				t.Errorf("Order(%d) = %v, want %v", flow, got, orders[flow])
			}
		}
		if len(orders[0]) < 50 {
			t.Errorf("%d flows: only %d packets of flow 0 were delivered", flows, len(orders[0]))
		}
	}
}

// checkAscending checks that the last one of some numbers is the greatest.
func checkAscending(t *testing.T, ids []int) {
	t.Helper()
	if n := len(ids); n > 1 && ids[n-2] >= ids[n-1] {
		t.Fatalf("%d is delivered after %d", ids[n-1], ids[n-2])
	}
}

// TestRepeated checks P2: the results depend only on the calls made before on the same table, whatever is done with another one in between, and reading changes nothing.
func TestRepeated(t *testing.T) {
	source := rand.New(rand.NewPCG(183, 1))
	randomSteps := func() (out []step) {
		for i := range 400 {
			out = append(out, randomStep(source, i/4, 4))
		}
		return out
	}
	steps := randomSteps()
	ids, flows := upTo(100), flowsAndMore()
	type result struct {
		id  int
		err api.Errno
	}
	run := func(between func(i int)) (results []result, views []seen) {
		x := life.New()
		for i, s := range steps {
			between(i)
			id, err := take(x, s)
			between(i)
			results, views = append(results, result{id, err}), append(views, look(x, ids, flows), look(x, ids, flows))
		}
		return results, views
	}
	want, wantViews := run(func(int) {})
	for i := 0; i < len(wantViews); i += 2 {
		if !wantViews[i].equal(wantViews[i+1]) {
			t.Fatalf("reading after %d steps has changed the table", i/2+1)
		}
	}
	other := life.New()
	for range 3 {
		noise := randomSteps()
		got, views := run(func(i int) {
			take(other, noise[i])
			look(other, ids[:3], flows)
		})
		if !slices.Equal(got, want) || !slices.EqualFunc(views, wantViews, seen.equal) {
			t.Error("the results depend on another table")
		}
	}
}

// spoil overwrites a list and what may lie behind its end.
func spoil(list []int) {
	for i := range list {
		list[i] = 999
	}
	_ = append(list, 999, 999, 999)
	_ = append(list[:0], 999, 999, 999)
}

// TestOwnLists checks that the results of Order share no memory with each other, with later ones or with the table.
func TestOwnLists(t *testing.T) {
	for n := range 20 {
		x := life.New()
		var lists, copies [][]int
		keep := func() {
			for flow := 1; flow <= 2; flow++ {
				list := x.Order(flow)
				lists, copies = append(lists, list), append(copies, slices.Clone(list))
			}
		}
		for i := range n {
			mustTake(t, x, step{accept, 1 + i%2, 10}, step{send, i + 1, 0}, step{deliver, i + 1, 0})
			keep()
			keep()
		}
		for i, list := range lists {
			for k := i; k < len(lists); k++ {
				if !slices.Equal(lists[k], copies[k]) {
					t.Fatalf("list %d of %d packets: %v has become %v", k, n, copies[k], lists[k])
				}
			}
			spoil(list)
		}
		checkLater(t, x, n)
	}
}

// checkLater delivers two more packets on a table with n delivered ones of two flows, the lists of which were changed.
func checkLater(t *testing.T, x *life.Table, n int) {
	t.Helper()
	for i := n; i < n+2; i++ {
		mustTake(t, x, step{accept, 1 + i%2, 10}, step{send, i + 1, 0}, step{deliver, i + 1, 0})
		spoil(x.Order(1))
		spoil(x.Order(2))
	}
	var odd, even []int
	for id := 1; id <= n+2; id++ {
		if id%2 == 1 {
			odd = append(odd, id)
		} else {
			even = append(even, id)
		}
	}
	wantFlow(t, x, 1, [4]int{0, 0, len(odd), 0}, 0, 10*int64(len(odd)), odd...)
	wantFlow(t, x, 2, [4]int{0, 0, len(even), 0}, 0, 10*int64(len(even)), even...)
}
