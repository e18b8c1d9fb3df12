package flows_test

import (
	"fmt"
	"math"
	"math/rand/v2"
	"reflect"
	"slices"
	"strings"
	"testing"
	"unsafe"

	"airshare/api"
	"airshare/flows"
	"airshare/label"
)

// greatestCapacity and greatestRates are the greatest arguments of New, written out.
const (
	greatestCapacity = 512
	greatestRates    = 12
)

// families are names, of which those in one row are equal when they are folded and those in different rows are not.
var families = [][]string{
	{"ann", "ANN", "Ann", "aNn"},
	{"äb-1", "ÄB-1", "Äb-1"},
	{"ω.Σ", "Ω.σ", "ω.σ"},
	{"×"}, {"÷"}, {"ß"}, {"SS", "ss"}, {"ā"}, {"Ā"}, {"ς"}, {"s", "S"}, {"ſ"}, {"k", "K"}, {"\u212a"},
	{"0", "0"},
	{"-"}, {"_"}, {"."},
	{"annn", "ANNN"}, {"an", "AN"}, {"anm"},
	{"日本"}, {"😀"},
	{strings.Repeat("x", 24), strings.Repeat("X", 24), strings.Repeat("xX", 12)},
	{strings.Repeat("x", 23), strings.Repeat("X", 23)},
}

// notNames are strings that are not names.
var notNames = []string{
	"", " ", "a b", "ann ", " ann", "*", "ann*", "a/b", "\x00", "\xff", "\xc3", "ann\xff", "\ufffd", "\u00a0",
	strings.Repeat("x", 25), strings.Repeat("ä", 13), strings.Repeat("x", 1<<16),
}

// Numbers that are far from all that is permitted; some of their lower bits are those of 1.
var (
	farInts   = []int{-2, -16, 1 << 31, 1 << 32, 1<<32 + 1, -1 << 32, 1<<56 + 1, math.MaxInt, math.MaxInt - 1, math.MinInt, math.MinInt + 1}
	farInt64s = []int64{-2, -16, 2 << 40, 1<<41 + 1, 1<<56 + 1, math.MaxInt64, math.MaxInt64 - 1, math.MinInt64, math.MinInt64 + 1}
)

// badWeights are weights that are not permitted.
func badWeights() []int {
	return append([]int{0, -1, 17, 18}, farInts...)
}

// badNumbers are numbers that none of n stations or flows has.
func badNumbers(n int) []int {
	return append([]int{-1, n, n + 1, n + 16, n + 32}, farInts...)
}

// model is a second wording of the chapter: it compares names one by one, keeps the flows that are there in a map, and keeps the total beside them.
type model struct {
	capacity, rates int
	stations        []api.Station
	flows           map[int]api.Flow
	added           int
	total           int
}

func newModel(capacity, rates int) *model {
	return &model{capacity: capacity, rates: rates, flows: map[int]api.Flow{}}
}

func (m *model) find(name string) (int, bool) {
	for _, s := range m.stations {
		if label.Compare(s.Name, name) == 0 {
			return s.ID, true
		}
	}
	return 0, false
}

func (m *model) addStation(name string, weight, rate int) (int, api.Errno) {
	_, there := m.find(name)
	switch {
	case !label.Valid(name), weight < 1, weight > 16, rate < 0, rate > m.rates-1:
		return 0, api.ErrInvalid
	case there:
		return 0, api.ErrDuplicate
	case len(m.stations) >= 16:
		return 0, api.ErrFull
	}
	m.stations = append(m.stations, api.Station{ID: len(m.stations), Name: name, Weight: weight, Rate: rate})
	return len(m.stations) - 1, api.OK
}

func (m *model) addFlow(station, weight int) (int, api.Errno) {
	switch {
	case station < 0, station >= len(m.stations):
		return 0, api.ErrNotFound
	case weight < 1, weight > 16:
		return 0, api.ErrInvalid
	case m.added >= 32:
		return 0, api.ErrFull
	case m.total+weight > m.capacity:
		return 0, api.ErrRefused
	}
	id := m.added
	m.flows[id] = api.Flow{ID: id, Station: station, Weight: weight, Packets: 64, Bytes: 1 << 18, Lag: 1 << 40, Lead: 1 << 40}
	m.added++
	m.total += weight
	return id, api.OK
}

func (m *model) setWeight(flow, weight int) api.Errno {
	f, there := m.flows[flow]
	switch {
	case !there:
		return api.ErrNotFound
	case weight < 1, weight > 16:
		return api.ErrInvalid
	case m.total-f.Weight+weight > m.capacity:
		return api.ErrRefused
	}
	m.total += weight - f.Weight
	f.Weight = weight
	m.flows[flow] = f
	return api.OK
}

func (m *model) setCaps(flow, packets, bytes int) api.Errno {
	f, there := m.flows[flow]
	switch {
	case !there:
		return api.ErrNotFound
	case packets < 1, packets > 64, bytes < 1, bytes > 262144:
		return api.ErrInvalid
	}
	f.Packets, f.Bytes = packets, bytes
	m.flows[flow] = f
	return api.OK
}

func (m *model) setBounds(flow int, lag, lead int64) api.Errno {
	f, there := m.flows[flow]
	switch {
	case !there:
		return api.ErrNotFound
	case lag < 0, lag > 1<<40, lead < 0, lead > 1<<40:
		return api.ErrInvalid
	}
	f.Lag, f.Lead = lag, lead
	m.flows[flow] = f
	return api.OK
}

func (m *model) remove(flow int) api.Errno {
	f, there := m.flows[flow]
	if !there {
		return api.ErrNotFound
	}
	m.total -= f.Weight
	delete(m.flows, flow)
	return api.OK
}

// flowList returns the flows that are there, in ascending order.
func (m *model) flowList() []api.Flow {
	var out []api.Flow
	for id := range m.added {
		if f, there := m.flows[id]; there {
			out = append(out, f)
		}
	}
	return out
}

// Kinds of steps.
const (
	addStation = iota
	addFlow
	setWeight
	setCaps
	setBounds
	remove
)

// step is a call of a method that may change a table, with its arguments in their order.
type step struct {
	kind    int
	name    string
	a, b, c int
}

// result is what such a call returns.
type result struct {
	id  int
	err api.Errno
}

func onTable(x *flows.Table, s step) (out result) {
	switch s.kind {
	case addStation:
		out.id, out.err = x.AddStation(s.name, s.a, s.b)
	case addFlow:
		out.id, out.err = x.AddFlow(s.a, s.b)
	case setWeight:
		out.err = x.SetWeight(s.a, s.b)
	case setCaps:
		out.err = x.SetCaps(s.a, s.b, s.c)
	case setBounds:
		out.err = x.SetBounds(s.a, int64(s.b), int64(s.c))
	default:
		out.err = x.Remove(s.a)
	}
	return out
}

func onModel(m *model, s step) (out result) {
	switch s.kind {
	case addStation:
		out.id, out.err = m.addStation(s.name, s.a, s.b)
	case addFlow:
		out.id, out.err = m.addFlow(s.a, s.b)
	case setWeight:
		out.err = m.setWeight(s.a, s.b)
	case setCaps:
		out.err = m.setCaps(s.a, s.b, s.c)
	case setBounds:
		out.err = m.setBounds(s.a, int64(s.b), int64(s.c))
	default:
		out.err = m.remove(s.a)
	}
	return out
}

// pair is a table beside a model with the same calls.
type pair struct {
	x *flows.Table
	m *model
}

func newPair(t *testing.T, capacity, rates int) pair {
	t.Helper()
	x, err := flows.New(capacity, rates)
	if x == nil || err != api.OK {
		t.Fatalf("New(%d, %d) = %v, %d", capacity, rates, x, err)
	}
	return pair{x, newModel(capacity, rates)}
}

// run takes a step on both and returns the result, which must be the same.
func (p pair) run(t *testing.T, s step) result {
	t.Helper()
	got, want := onTable(p.x, s), onModel(p.m, s)
	if got != want {
		t.Fatalf("%+v: %+v, want %+v", s, got, want)
	}
	return got
}

// want takes a step on both, whose result must be the one that is given.
func (p pair) want(t *testing.T, s step, id int, err api.Errno) {
	t.Helper()
	if got := p.run(t, s); got != (result{id, err}) {
		t.Fatalf("%+v: %+v, want %+v", s, got, result{id, err})
	}
}

// fail takes a step on both, which must have this error and change nothing that can be seen.
func (p pair) fail(t *testing.T, s step, err api.Errno) {
	t.Helper()
	before := seen(p.x)
	p.want(t, s, 0, err)
	if after := seen(p.x); !reflect.DeepEqual(after, before) {
		t.Fatalf("%+v with the error %d changed %+v to %+v", s, err, before, after)
	}
}

// view is what can be seen of a table at a glance.
type view struct {
	stations []api.Station
	flows    []api.Flow
	total    int
}

func seen(x *flows.Table) view {
	return view{x.Stations(), x.Flows(), x.Total()}
}

// check checks all that can be seen of a table without a change.
func (p pair) check(t *testing.T, what string) {
	t.Helper()
	if got := p.x.Stations(); !slices.Equal(got, p.m.stations) {
		t.Fatalf("%s: Stations() = %+v, want %+v", what, got, p.m.stations)
	}
	if got, want := p.x.Flows(), p.m.flowList(); !slices.Equal(got, want) {
		t.Fatalf("%s: Flows() = %+v, want %+v", what, got, want)
	}
	if got := p.x.Total(); got != p.m.total || got > p.m.capacity {
		t.Fatalf("%s: Total() = %d, want %d with the capacity %d", what, got, p.m.total, p.m.capacity)
	}
	for id := -2; id < 36; id++ {
		p.checkNumber(t, what, id)
	}
	for _, id := range farInts {
		p.checkNumber(t, what, id)
	}
}

// checkNumber checks what the table has under a number.
func (p pair) checkNumber(t *testing.T, what string, id int) {
	t.Helper()
	var station api.Station
	isStation := id >= 0 && id < len(p.m.stations)
	if isStation {
		station = p.m.stations[id]
	}
	if got, there := p.x.Station(id); got != station || there != isStation {
		t.Fatalf("%s: Station(%d) = %+v, %t, want %+v, %t", what, id, got, there, station, isStation)
	}
	flow, isFlow := p.m.flows[id]
	if got, there := p.x.Flow(id); got != flow || there != isFlow {
		t.Fatalf("%s: Flow(%d) = %+v, %t, want %+v, %t", what, id, got, there, flow, isFlow)
	}
}

// checkFind checks Find for a name.
func checkFind(t *testing.T, x *flows.Table, name string, want int, wantFound bool) {
	t.Helper()
	if got, found := x.Find(name); got != want || found != wantFound {
		t.Fatalf("Find(%.40q) = %d, %t, want %d, %t", name, got, found, want, wantFound)
	}
}

// withStations returns a pair with n stations.
func withStations(t *testing.T, capacity, rates, n int) pair {
	t.Helper()
	p := newPair(t, capacity, rates)
	for i := range n {
		p.want(t, step{kind: addStation, name: fmt.Sprintf("station-%d", i), a: 1 + i%16, b: i % rates}, i, api.OK)
	}
	return p
}

// withFlows returns a pair with two stations and with flows of these weights.
func withFlows(t *testing.T, capacity int, weights ...int) pair {
	t.Helper()
	p := withStations(t, capacity, 3, 2)
	for i, weight := range weights {
		p.want(t, step{kind: addFlow, a: i % 2, b: weight}, i, api.OK)
	}
	return p
}

// TestExamples checks the chapter's examples.
func TestExamples(t *testing.T) {
	x, err := flows.New(3, 1)
	if err != api.OK {
		t.Fatalf("New(3, 1): %d", err)
	}
	if id, err := x.AddStation("ann", 1, 0); id != 0 || err != api.OK {
		t.Errorf("AddStation(ann) = %d, %d", id, err)
	}
	if id, err := x.AddStation("ANN", 2, 0); id != 0 || err != api.ErrDuplicate {
		t.Errorf("AddStation(ANN) = %d, %d, want 0, %d", id, err, api.ErrDuplicate)
	}
	if id, err := x.AddFlow(0, 2); id != 0 || err != api.OK {
		t.Errorf("AddFlow(0, 2) = %d, %d", id, err)
	}
	if id, err := x.AddFlow(0, 2); id != 0 || err != api.ErrRefused {
		t.Errorf("AddFlow(0, 2) = %d, %d, want 0, %d", id, err, api.ErrRefused)
	}
	if err := x.Remove(0); err != api.OK {
		t.Errorf("Remove(0) = %d", err)
	}
	if id, err := x.AddFlow(0, 2); id != 1 || err != api.OK {
		t.Errorf("AddFlow(0, 2) = %d, %d, want 1, 0", id, err)
	}
}

// TestNew checks P10.1: every capacity and number of rates that is permitted, and what is not.
func TestNew(t *testing.T) {
	for capacity := 1; capacity <= greatestCapacity; capacity++ {
		for rates := 1; rates <= greatestRates; rates++ {
			p := newPair(t, capacity, rates)
			if rates == 1 || capacity%100 == 1 {
				p.check(t, "new")
			}
			checkFind(t, p.x, "ann", 0, false)
			checkFind(t, p.x, "", 0, false)
		}
	}
	badCapacities := append([]int{0, -1, 513, 514, 528}, farInts...)
	badRates := append([]int{0, -1, 13, 14}, farInts...)
	wantInvalid := func(capacity, rates int) {
		t.Helper()
		if x, err := flows.New(capacity, rates); x != nil || err != api.ErrInvalid {
			t.Errorf("New(%d, %d) = %v, %d, want nil, %d", capacity, rates, x, err, api.ErrInvalid)
		}
	}
	for _, capacity := range badCapacities {
		for rates := 1; rates <= greatestRates; rates++ {
			wantInvalid(capacity, rates)
		}
		for _, rates := range badRates {
			wantInvalid(capacity, rates)
		}
	}
	for _, rates := range badRates {
		for capacity := 1; capacity <= greatestCapacity; capacity++ {
			wantInvalid(capacity, rates)
		}
	}
}

// TestNewTable checks that a new table without flows or stations has nothing to change.
func TestNewTable(t *testing.T) {
	p := newPair(t, 512, 12)
	for _, number := range append(badNumbers(0), 0) {
		p.fail(t, step{kind: addFlow, a: number, b: 1}, api.ErrNotFound)
		p.fail(t, step{kind: setWeight, a: number, b: 1}, api.ErrNotFound)
		p.fail(t, step{kind: setCaps, a: number, b: 1, c: 1}, api.ErrNotFound)
		p.fail(t, step{kind: setBounds, a: number, b: 1, c: 1}, api.ErrNotFound)
		p.fail(t, step{kind: remove, a: number}, api.ErrNotFound)
	}
	p.check(t, "new")
}

// TestAddStation checks in P10.2 all weights and rates that are permitted, and the numbers of stations.
func TestAddStation(t *testing.T) {
	for rates := 1; rates <= greatestRates; rates++ {
		p := newPair(t, 1, rates)
		for i := range 16 {
			weight, rate := 16-i, (i+rates-1)%rates
			p.want(t, step{kind: addStation, name: fmt.Sprintf("S%d", i), a: weight, b: rate}, i, api.OK)
			want := api.Station{ID: i, Name: fmt.Sprintf("S%d", i), Weight: weight, Rate: rate}
			if got, there := p.x.Station(i); got != want || !there {
				t.Fatalf("Station(%d) = %+v, %t, want %+v", i, got, there, want)
			}
			p.check(t, "added")
		}
		for rate := range rates {
			for weight := 1; weight <= 16; weight++ {
				q := newPair(t, 1, rates)
				q.want(t, step{kind: addStation, name: "a", a: weight, b: rate}, 0, api.OK)
				q.check(t, "one station")
			}
		}
	}
}

// TestStationNames checks in P10.2 and P10.5 that names which are equal when they are folded are duplicates, that others are not, and that a station keeps its name as it was given.
func TestStationNames(t *testing.T) {
	for i, family := range families {
		for _, name := range family {
			p := newPair(t, 1, 1)
			p.want(t, step{kind: addStation, name: "other", a: 1}, 0, api.OK)
			p.want(t, step{kind: addStation, name: name, a: 1}, 1, api.OK)
			if got, there := p.x.Station(1); got.Name != name || !there {
				t.Fatalf("Station(1) = %+v, %t, want the name %q", got, there, name)
			}
			for k, others := range families {
				for _, other := range others {
					if k == i {
						checkFind(t, p.x, other, 1, true)
						p.fail(t, step{kind: addStation, name: other, a: 1}, api.ErrDuplicate)
						continue
					}
					checkFind(t, p.x, other, 0, false)
				}
			}
			checkFind(t, p.x, "OTHER", 0, true)
			for k, others := range families {
				if k != i && len(p.m.stations) < 16 {
					p.want(t, step{kind: addStation, name: others[0], a: 1}, len(p.m.stations), api.OK)
				}
			}
			checkFind(t, p.x, name, 1, true)
			p.check(t, "families")
		}
	}
}

// TestAddStationInvalid checks ErrInvalid in P10.2, for each argument alone.
func TestAddStationInvalid(t *testing.T) {
	for rates := 1; rates <= greatestRates; rates++ {
		p := newPair(t, 1, rates)
		for n := range 3 {
			for _, name := range notNames {
				p.fail(t, step{kind: addStation, name: name, a: 1}, api.ErrInvalid)
			}
			for _, weight := range badWeights() {
				p.fail(t, step{kind: addStation, name: "new", a: weight}, api.ErrInvalid)
			}
			for _, rate := range append([]int{-1, rates, rates + 1, 16}, farInts...) {
				p.fail(t, step{kind: addStation, name: "new", a: 1, b: rate}, api.ErrInvalid)
			}
			checkFind(t, p.x, "new", 0, false)
			p.check(t, "invalid")
			p.want(t, step{kind: addStation, name: fmt.Sprintf("s%d", n), a: 1}, n, api.OK)
		}
	}
}

// TestAddStationOrder checks the order of the errors in P10.2, with a table that is full and one that has room for one more.
func TestAddStationOrder(t *testing.T) {
	for _, n := range []int{1, 15, 16} {
		p := withStations(t, 10, 3, n)
		last := fmt.Sprintf("STATION-%d", n-1)
		for _, name := range []string{"station-0", last} {
			p.fail(t, step{kind: addStation, name: name, a: 1}, api.ErrDuplicate)
			p.fail(t, step{kind: addStation, name: name, a: 0}, api.ErrInvalid)
			p.fail(t, step{kind: addStation, name: name, a: 17}, api.ErrInvalid)
			p.fail(t, step{kind: addStation, name: name, a: 1, b: 3}, api.ErrInvalid)
			p.fail(t, step{kind: addStation, name: name, a: 1, b: -1}, api.ErrInvalid)
		}
		for _, name := range notNames {
			p.fail(t, step{kind: addStation, name: name, a: 1}, api.ErrInvalid)
		}
		p.fail(t, step{kind: addStation, name: "new", a: 0}, api.ErrInvalid)
		p.fail(t, step{kind: addStation, name: "new", a: 1, b: 3}, api.ErrInvalid)
		if n == 16 {
			p.fail(t, step{kind: addStation, name: "new", a: 1}, api.ErrFull)
			checkFind(t, p.x, "new", 0, false)
			p.fail(t, step{kind: addStation, name: "new", a: 1}, api.ErrFull)
			checkFind(t, p.x, "new", 0, false)
		} else {
			p.want(t, step{kind: addStation, name: "new", a: 1}, n, api.OK)
			checkFind(t, p.x, "new", n, true)
		}
		p.check(t, "errors")
	}
}

// TestAddFlow checks in P10.3 the numbers of flows, all stations and weights, and the first caps and bounds, which the test writes out.
func TestAddFlow(t *testing.T) {
	for weight := 1; weight <= 16; weight++ {
		p := withStations(t, 512, 3, 16)
		for i := range 32 {
			station := (i * 5) % 16
			p.want(t, step{kind: addFlow, a: station, b: weight}, i, api.OK)
			want := api.Flow{ID: i, Station: station, Weight: weight, Packets: 64, Bytes: 262144, Lag: 1099511627776, Lead: 1099511627776}
			if got, there := p.x.Flow(i); got != want || !there {
				t.Fatalf("Flow(%d) = %+v, %t, want %+v", i, got, there, want)
			}
			if got := p.x.Total(); got != (i+1)*weight {
				t.Fatalf("Total() = %d with %d flows of the weight %d", got, i+1, weight)
			}
			p.check(t, "added")
		}
		p.fail(t, step{kind: addFlow, a: 0, b: 1}, api.ErrFull)
		p.check(t, "full")
	}
}

// TestCapacity checks ErrRefused in P10.3 and P10.4 for each capacity: a table takes flows up to exactly this total.
func TestCapacity(t *testing.T) {
	for capacity := 1; capacity <= greatestCapacity; capacity++ {
		p := withStations(t, capacity, 1, 1)
		id := 0
		for ; p.m.total+16 <= capacity; id++ {
			p.want(t, step{kind: addFlow, a: 0, b: 16}, id, api.OK)
		}
		rest := capacity - p.m.total
		for weight := rest + 1; weight <= 16 && id < 32; weight++ {
			p.fail(t, step{kind: addFlow, a: 0, b: weight}, api.ErrRefused)
		}
		if rest > 0 {
			p.want(t, step{kind: addFlow, a: 0, b: rest}, id, api.OK)
			for weight := rest + 1; weight <= 16; weight++ {
				p.fail(t, step{kind: setWeight, a: id, b: weight}, api.ErrRefused)
			}
			p.want(t, step{kind: setWeight, a: id, b: rest}, 0, api.OK)
			p.want(t, step{kind: setWeight, a: id, b: 1}, 0, api.OK)
			for weight := rest + 1; weight <= 16; weight++ {
				p.fail(t, step{kind: setWeight, a: id, b: weight}, api.ErrRefused)
			}
			p.want(t, step{kind: setWeight, a: id, b: rest}, 0, api.OK)
			id++
		}
		if p.x.Total() != capacity {
			t.Fatalf("Total() = %d with the capacity %d", p.x.Total(), capacity)
		}
		if id < 32 {
			p.fail(t, step{kind: addFlow, a: 0, b: 1}, api.ErrRefused)
			p.want(t, step{kind: remove, a: 0}, 0, api.OK)
			p.want(t, step{kind: addFlow, a: 0, b: min(16, capacity)}, id, api.OK)
			p.fail(t, step{kind: addFlow, a: 0, b: 1}, p.whenFull(id+1))
		}
		p.check(t, "filled")
	}
}

// whenFull returns the error of one more flow in a table without room in its capacity, to which this number of flows has been added.
func (p pair) whenFull(added int) api.Errno {
	if added == 32 {
		return api.ErrFull
	}
	return api.ErrRefused
}

// TestAddFlowErrors checks the errors of P10.3 and their order: all of their combinations.
func TestAddFlowErrors(t *testing.T) {
	for _, full := range []bool{false, true} {
		for _, tight := range []bool{false, true} {
			count := 3
			if full {
				count = 32
			}
			capacity := 512
			if tight {
				capacity = 2*count + 1
			}
			p := withFlows(t, capacity, slices.Repeat([]int{2}, count)...)
			for _, station := range badNumbers(2) {
				for _, weight := range append(badWeights(), 1, 2, 16) {
					p.fail(t, step{kind: addFlow, a: station, b: weight}, api.ErrNotFound)
				}
			}
			for station := range 2 {
				for _, weight := range badWeights() {
					p.fail(t, step{kind: addFlow, a: station, b: weight}, api.ErrInvalid)
				}
			}
			switch {
			case full:
				p.fail(t, step{kind: addFlow, a: 0, b: 2}, api.ErrFull)
				p.fail(t, step{kind: addFlow, a: 1, b: 1}, api.ErrFull)
				p.fail(t, step{kind: addFlow, a: 1, b: 16}, api.ErrFull)
			case tight:
				p.fail(t, step{kind: addFlow, a: 0, b: 2}, api.ErrRefused)
				p.fail(t, step{kind: addFlow, a: 1, b: 16}, api.ErrRefused)
				p.want(t, step{kind: addFlow, a: 1, b: 1}, count, api.OK)
			default:
				p.want(t, step{kind: addFlow, a: 1, b: 16}, count, api.OK)
			}
			p.check(t, "errors")
		}
	}
}

// TestFullOfRemoved checks in P10.3 that removed flows count for MaxFlows, whichever they are.
func TestFullOfRemoved(t *testing.T) {
	for _, keep := range []func(id int) bool{
		func(id int) bool { return false },
		func(id int) bool { return id < 31 },
		func(id int) bool { return id > 0 },
		func(id int) bool { return id%2 == 0 },
	} {
		p := withStations(t, 16, 1, 1)
		for id := range 32 {
			for p.m.total == 16 {
				p.want(t, step{kind: remove, a: p.m.flowList()[0].ID}, 0, api.OK)
			}
			p.want(t, step{kind: addFlow, a: 0, b: 1}, id, api.OK)
		}
		for id := range 32 {
			if _, there := p.m.flows[id]; there && !keep(id) {
				p.want(t, step{kind: remove, a: id}, 0, api.OK)
			}
		}
		for range 3 {
			p.fail(t, step{kind: addFlow, a: 0, b: 1}, api.ErrFull)
			p.fail(t, step{kind: addFlow, a: 0, b: 16}, api.ErrFull)
		}
		p.check(t, "full")
	}
}

// TestSetWeight checks SetWeight in P10.4: every change from one weight to another, with a total that just fits and one that is too great by one.
func TestSetWeight(t *testing.T) {
	for from := 1; from <= 16; from++ {
		for to := 1; to <= 16; to++ {
			for flow := range 3 {
				weights := []int{5, 5, 5}
				weights[flow] = from
				p := withFlows(t, 10+max(from, to), weights...)
				p.want(t, step{kind: setWeight, a: flow, b: to}, 0, api.OK)
				p.check(t, "changed")
				if to > from {
					q := withFlows(t, 10+to-1, weights...)
					q.fail(t, step{kind: setWeight, a: flow, b: to}, api.ErrRefused)
					q.want(t, step{kind: setWeight, a: flow, b: to - 1}, 0, api.OK)
					q.check(t, "refused")
				}
			}
		}
	}
}

// TestSetWeightErrors checks the errors of SetWeight and their order, in a table in which every greater total is refused.
func TestSetWeightErrors(t *testing.T) {
	p := withFlows(t, 6, 1, 2, 1, 2)
	p.want(t, step{kind: remove, a: 2}, 0, api.OK)
	p.want(t, step{kind: setWeight, a: 3, b: 3}, 0, api.OK)
	for _, flow := range append(badNumbers(4), 2) {
		for _, weight := range append(badWeights(), 1, 2, 16) {
			p.fail(t, step{kind: setWeight, a: flow, b: weight}, api.ErrNotFound)
		}
	}
	for _, flow := range []int{0, 1, 3} {
		for _, weight := range badWeights() {
			p.fail(t, step{kind: setWeight, a: flow, b: weight}, api.ErrInvalid)
		}
		p.fail(t, step{kind: setWeight, a: flow, b: 16}, api.ErrRefused)
		f, _ := p.x.Flow(flow)
		p.fail(t, step{kind: setWeight, a: flow, b: f.Weight + 1}, api.ErrRefused)
		p.want(t, step{kind: setWeight, a: flow, b: f.Weight}, 0, api.OK)
	}
	p.check(t, "errors")
}

// TestSetCaps checks SetCaps in P10.4: all numbers of packets, numbers of bytes up to both ends, what is not permitted, and that ErrNotFound comes first.
func TestSetCaps(t *testing.T) {
	p := withFlows(t, 20, 1, 2, 3, 4)
	p.want(t, step{kind: remove, a: 1}, 0, api.OK)
	bytes := []int{1, 2, 63, 64, 65, 4096, 65535, 65536, 262143, 262144}
	badPackets := append([]int{0, -1, 65, 66, 128}, farInts...)
	badBytes := append([]int{0, -1, 262145, 262146}, farInts...)
	for _, flow := range []int{0, 2, 3} {
		for packets := 1; packets <= 64; packets++ {
			for _, b := range bytes {
				p.want(t, step{kind: setCaps, a: flow, b: packets, c: b}, 0, api.OK)
				if got, there := p.x.Flow(flow); got.Packets != packets || got.Bytes != b || !there {
					t.Fatalf("SetCaps(%d, %d, %d): the flow is %+v, %t", flow, packets, b, got, there)
				}
			}
			p.check(t, "caps")
		}
		p.want(t, step{kind: setCaps, a: flow, b: 7 + flow, c: 700 + flow}, 0, api.OK)
		for _, packets := range badPackets {
			for _, b := range slices.Concat(bytes, badBytes) {
				p.fail(t, step{kind: setCaps, a: flow, b: packets, c: b}, api.ErrInvalid)
			}
		}
		for _, b := range badBytes {
			for packets := 1; packets <= 64; packets++ {
				p.fail(t, step{kind: setCaps, a: flow, b: packets, c: b}, api.ErrInvalid)
			}
		}
	}
	for _, flow := range append(badNumbers(4), 1) {
		for _, packets := range []int{1, 64, 0, 65} {
			for _, b := range []int{1, 262144, 0, 262145} {
				p.fail(t, step{kind: setCaps, a: flow, b: packets, c: b}, api.ErrNotFound)
			}
		}
	}
	p.check(t, "errors")
}

// TestSetBounds checks SetBounds in P10.4: numbers up to both ends, what is not permitted, and that ErrNotFound comes first.
func TestSetBounds(t *testing.T) {
	p := withFlows(t, 20, 1, 2, 3, 4)
	p.want(t, step{kind: remove, a: 1}, 0, api.OK)
	good := []int64{0, 1, 2, 100, 1 << 31, 1<<32 + 5, 1<<40 - 1, 1 << 40}
	bad := append([]int64{-1, 1<<40 + 1, 1<<40 + 2}, farInt64s...)
	call := func(flow int, lag, lead int64) step {
		return step{kind: setBounds, a: flow, b: int(lag), c: int(lead)}
	}
	for _, flow := range []int{0, 2, 3} {
		for _, lag := range good {
			for _, lead := range good {
				p.want(t, call(flow, lag, lead), 0, api.OK)
				if got, there := p.x.Flow(flow); got.Lag != lag || got.Lead != lead || !there {
					t.Fatalf("SetBounds(%d, %d, %d): the flow is %+v, %t", flow, lag, lead, got, there)
				}
			}
			p.check(t, "bounds")
		}
		p.want(t, call(flow, 70+int64(flow), 80), 0, api.OK)
		for _, one := range bad {
			for _, other := range slices.Concat(good, bad) {
				p.fail(t, call(flow, one, other), api.ErrInvalid)
				p.fail(t, call(flow, other, one), api.ErrInvalid)
			}
		}
	}
	for _, flow := range append(badNumbers(4), 1) {
		for _, lag := range []int64{0, 1 << 40, -1, 1<<40 + 1} {
			for _, lead := range []int64{0, 1 << 40, -1, 1<<40 + 1} {
				p.fail(t, call(flow, lag, lead), api.ErrNotFound)
			}
		}
	}
	p.check(t, "errors")
}

// TestRemove checks Remove in P10.4: for each set of flows that are removed from five, in both orders, what is left, and that no method finds the others.
func TestRemove(t *testing.T) {
	for set := range 1 << 5 {
		for _, backward := range []bool{false, true} {
			p := withFlows(t, 31, 1, 2, 4, 8, 16)
			for i := range 5 {
				id := i
				if backward {
					id = 4 - i
				}
				if set>>id&1 == 1 {
					p.want(t, step{kind: remove, a: id}, 0, api.OK)
					p.check(t, "removed")
				}
			}
			if got := p.x.Total(); got != 31-set {
				t.Fatalf("Total() = %d without the flows of %05b", got, set)
			}
			for id := range 5 {
				if set>>id&1 == 1 {
					p.fail(t, step{kind: remove, a: id}, api.ErrNotFound)
					p.fail(t, step{kind: setWeight, a: id, b: 1}, api.ErrNotFound)
					p.fail(t, step{kind: setCaps, a: id, b: 1, c: 1}, api.ErrNotFound)
					p.fail(t, step{kind: setBounds, a: id, b: 1, c: 1}, api.ErrNotFound)
				}
			}
			if set > 0 {
				p.want(t, step{kind: addFlow, a: 1, b: min(16, set)}, 5, api.OK)
			}
			for _, id := range badNumbers(6) {
				p.fail(t, step{kind: remove, a: id}, api.ErrNotFound)
			}
			p.check(t, "at last")
		}
	}
}

// TestNumbersNotReused checks that a flow after a removed one has another number, and the first caps and bounds instead of those of the removed one; and that a refused flow takes no number.
func TestNumbersNotReused(t *testing.T) {
	p := withFlows(t, 5, 2)
	for id := range 31 {
		p.want(t, step{kind: setCaps, a: id, b: 3, c: 4}, 0, api.OK)
		p.want(t, step{kind: setBounds, a: id, b: 5, c: 6}, 0, api.OK)
		p.fail(t, step{kind: addFlow, a: 0, b: 4}, api.ErrRefused)
		p.fail(t, step{kind: addFlow, a: 0, b: 0}, api.ErrInvalid)
		p.fail(t, step{kind: addFlow, a: 2, b: 1}, api.ErrNotFound)
		p.want(t, step{kind: remove, a: id}, 0, api.OK)
		p.want(t, step{kind: addFlow, a: 1, b: 2 + id%4}, id+1, api.OK)
		p.check(t, "again")
	}
	p.fail(t, step{kind: addFlow, a: 1, b: 1}, api.ErrFull)
}

// TestFind checks Find in P10.5 with as many stations as there may be, whose names are of different families.
func TestFind(t *testing.T) {
	for start := range len(families) {
		p := newPair(t, 1, 1)
		for i := range 16 {
			family := families[(start+i)%len(families)]
			for _, name := range family {
				checkFind(t, p.x, name, 0, false)
			}
			p.want(t, step{kind: addStation, name: family[i%len(family)], a: 1}, i, api.OK)
			for k := range i + 1 {
				for _, name := range families[(start+k)%len(families)] {
					checkFind(t, p.x, name, k, true)
				}
			}
		}
		for i := 16; i < len(families); i++ {
			for _, name := range families[(start+i)%len(families)] {
				checkFind(t, p.x, name, 0, false)
			}
		}
		for _, name := range notNames {
			checkFind(t, p.x, name, 0, false)
		}
		p.check(t, "found")
	}
}

// randomNumber returns one of the numbers up to n, or now and then one that is out of range.
func randomNumber(source *rand.Rand, n int) int {
	if source.IntN(20) == 0 {
		bad := badNumbers(n)
		return bad[source.IntN(len(bad))]
	}
	return source.IntN(n + 1)
}

// randomStep returns a step with arguments that mostly are permitted. Few of the names are different, so that some are equal.
func randomStep(source *rand.Rand, names []string) step {
	s := step{kind: source.IntN(6), name: names[source.IntN(len(names))]}
	switch s.kind {
	case addStation:
		s.a, s.b = randomNumber(source, 16), randomNumber(source, 4)
	case addFlow:
		s.a, s.b = randomNumber(source, 8), randomNumber(source, 16)
	case setWeight:
		s.a, s.b = randomNumber(source, 32), randomNumber(source, 17)
	case setCaps:
		s.a, s.b, s.c = randomNumber(source, 32), randomNumber(source, 64), randomNumber(source, 1<<18)
	case setBounds:
		s.a, s.b, s.c = randomNumber(source, 32), randomNumber(source, 1<<40), randomNumber(source, 1<<40)
	default:
		s.a = randomNumber(source, 32)
	}
	return s
}

// randomNames returns all names of the families and some strings that are not names.
func randomNames() []string {
	return slices.Concat(slices.Concat(families...), notNames[:6])
}

// TestRandom compares tables with the model, step by step, and checks that each method returns each of its errors.
func TestRandom(t *testing.T) {
	source := rand.New(rand.NewPCG(101, 102))
	names := randomNames()
	counts := map[[2]int]int{}
	for _, capacity := range []int{1, 2, 3, 16, 17, 40, 100, 200, 300, 511, 512} {
		for rates := 1; rates <= 6; rates++ {
			p := newPair(t, capacity, rates)
			for i := range 400 {
				s := randomStep(source, names)
				if got := p.run(t, s); got.err != api.OK {
					counts[[2]int{s.kind, int(got.err)}]++
				}
				if i%20 == 0 {
					p.check(t, "random")
				}
				name := names[source.IntN(len(names))]
				id, found := p.m.find(name)
				checkFind(t, p.x, name, id, found && label.Valid(name))
			}
			p.check(t, "random")
		}
	}
	for kind, errs := range [][]api.Errno{
		addStation: {api.ErrInvalid, api.ErrDuplicate, api.ErrFull},
		addFlow:    {api.ErrNotFound, api.ErrInvalid, api.ErrFull, api.ErrRefused},
		setWeight:  {api.ErrNotFound, api.ErrInvalid, api.ErrRefused},
		setCaps:    {api.ErrNotFound, api.ErrInvalid},
		setBounds:  {api.ErrNotFound, api.ErrInvalid},
		remove:     {api.ErrNotFound},
	} {
		for _, err := range errs {
			if counts[[2]int{kind, int(err)}] < 20 {
				t.Errorf("steps of the kind %d had the error %d only %d times", kind, err, counts[[2]int{kind, int(err)}])
			}
		}
	}
}

// TestSmall runs all sequences of five steps on tables with small capacities.
func TestSmall(t *testing.T) {
	steps := []step{
		{kind: addFlow, a: 0, b: 1}, {kind: addFlow, a: 1, b: 2}, {kind: setWeight, a: 0, b: 3}, {kind: setWeight, a: 1, b: 1},
		{kind: remove, a: 0}, {kind: remove, a: 1}, {kind: setCaps, a: 1, b: 2, c: 3}, {kind: setBounds, a: 0, b: 4, c: 5},
	}
	n := len(steps)
	for capacity := 1; capacity <= 4; capacity++ {
		for sequence := range n * n * n * n * n {
			p := newPair(t, capacity, 1)
			for _, name := range []string{"a", "b"} {
				p.x.AddStation(name, 1, 0)
				p.m.addStation(name, 1, 0)
			}
			rest := sequence
			for range 5 {
				p.run(t, steps[rest%n])
				rest /= n
			}
			if got, want := p.x.Flows(), p.m.flowList(); !slices.Equal(got, want) || p.x.Total() != p.m.total {
				t.Fatalf("capacity %d: sequence %d: %+v with the total %d, want %+v with %d", capacity, sequence, got, p.x.Total(), want, p.m.total)
			}
		}
	}
}

// TestRead checks that the methods that read change nothing.
func TestRead(t *testing.T) {
	p := withFlows(t, 20, 3, 4, 5)
	p.want(t, step{kind: remove, a: 1}, 0, api.OK)
	for range 5 {
		p.check(t, "read")
		checkFind(t, p.x, "STATION-1", 1, true)
		checkFind(t, p.x, "station-2", 0, false)
	}
	p.want(t, step{kind: addFlow, a: 1, b: 12}, 3, api.OK)
	p.want(t, step{kind: addStation, name: "station-2", a: 1}, 2, api.OK)
	p.check(t, "after it")
}

// TestRepeated checks P2: the results depend only on the calls made before on the same table, whatever is done with another one in between.
func TestRepeated(t *testing.T) {
	source := rand.New(rand.NewPCG(103, 104))
	names := randomNames()
	randomSteps := func() (out []step) {
		for range 500 {
			out = append(out, randomStep(source, names))
		}
		return out
	}
	steps := randomSteps()
	run := func(between func()) (out []any) {
		x := newPair(t, 100, 4).x
		for _, s := range steps {
			between()
			out = append(out, onTable(x, s), seen(x))
			id, found := x.Find(s.name)
			out = append(out, id, found)
		}
		return out
	}
	other := newPair(t, 50, 2).x
	want := run(func() {})
	for range 3 {
		noise := randomSteps()
		got := run(func() {
			onTable(other, noise[0])
			noise = noise[1:]
		})
		if !reflect.DeepEqual(got, want) {
			t.Error("the results depend on another table")
		}
	}
}

// TestOwnLists checks that the results of Stations and Flows share no memory with each other or with the table: it changes a result, and the table after that.
func TestOwnLists(t *testing.T) {
	for n := range 5 {
		p := withFlows(t, 60, slices.Repeat([]int{3}, n)...)
		first, second := seen(p.x), seen(p.x)
		want := view{slices.Clone(p.m.stations), p.m.flowList(), p.m.total}
		for i := range first.stations {
			first.stations[i] = api.Station{ID: 77, Name: "changed", Weight: 78, Rate: 79}
		}
		for i := range first.flows {
			first.flows[i] = api.Flow{ID: 77, Station: 78, Weight: 79}
		}
		_ = append(first.stations, api.Station{Name: "one more"})
		_ = append(first.flows, api.Flow{Weight: 80})
		p.check(t, "with changed lists")
		for id := range n {
			p.want(t, step{kind: setWeight, a: id, b: 5}, 0, api.OK)
			p.want(t, step{kind: setCaps, a: id, b: 5, c: 6}, 0, api.OK)
			p.want(t, step{kind: setBounds, a: id, b: 5, c: 6}, 0, api.OK)
		}
		p.run(t, step{kind: remove, a: 0})
		p.want(t, step{kind: addFlow, a: 1, b: 7}, n, api.OK)
		p.want(t, step{kind: addStation, name: "new", a: 1}, 2, api.OK)
		p.check(t, "changed")
		if !slices.Equal(second.stations, want.stations) || !slices.Equal(second.flows, want.flows) {
			t.Errorf("%+v has become %+v", want, second)
		}
	}
}

// TestOwnNames checks that the names in a table lie in memory of their own: it changes the bytes of the argument, and compares the places of results.
func TestOwnNames(t *testing.T) {
	for _, name := range []string{"ann", "ANN", "ÄB-1", strings.Repeat("x", 24)} {
		p := newPair(t, 1, 1)
		bytes := []byte(name)
		if id, err := p.x.AddStation(unsafe.String(&bytes[0], len(bytes)), 1, 0); id != 0 || err != api.OK {
			t.Fatalf("AddStation(%q) = %d, %d", name, id, err)
		}
		p.m.addStation(name, 1, 0)
		if string(bytes) != name {
			t.Errorf("%q has become %q", name, bytes)
		}
		for i := range bytes {
			bytes[i] = 'z'
		}
		p.check(t, "with a changed name")
		checkFind(t, p.x, name, 0, true)
		checkFind(t, p.x, strings.Repeat("z", len(name)), 0, false)
		var names []string
		for range 2 {
			one, _ := p.x.Station(0)
			names = append(names, one.Name, p.x.Stations()[0].Name)
		}
		for i, a := range names {
			for _, b := range names[:i] {
				if unsafe.StringData(a) == unsafe.StringData(b) {
					t.Errorf("two results share the name %q", name)
				}
			}
		}
	}
}
