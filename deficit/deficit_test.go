package deficit_test

import (
	"math"
	"math/rand/v2"
	"reflect"
	"slices"
	"testing"

	"airshare/api"
	"airshare/deficit"
)

// The numbers of the document, written out.
const (
	leastQuantum = 256
	mostAirtime  = 1048576
	stationCount = 16
	heaviest     = 16
)

// far are numbers that are far from all that is permitted as a station or a weight; some of their lower bits are those of 1.
var far = []int{-2, -15, -16, -32, 1 << 16, 1<<16 + 1, 1 << 31, 1 << 32, 1<<32 + 1, 1<<40 + 1, 1<<56 + 1, -1 << 32, 1 - 1<<32, math.MaxInt, math.MaxInt - 1, math.MinInt, math.MinInt + 1}

// The numbers that are not permitted, in each of their places.
var (
	badStations = append([]int{-1, 16, 17, 32}, far...)
	badWeights  = append([]int{0, -1, 17, 18, 32}, far...)
	badAirtimes = []int64{0, -1, -2, -600, -mostAirtime, mostAirtime + 1, mostAirtime + 2, 2 * mostAirtime, 1 << 32, 1<<32 + 1, 1<<40 + 600, 1 << 62, -1 << 32, 1 - 1<<32, math.MaxInt64, math.MaxInt64 - 1, math.MinInt64, math.MinInt64 + 1}
	badQuanta   = []int64{255, 254, 1, 0, -1, -256, -1000, -mostAirtime, mostAirtime + 1, mostAirtime + 2, 2 * mostAirtime, 1 << 32, 1<<32 + 256, 1<<32 + 1000, 1<<40 + 1000, 1 << 62, -1 << 32, 1000 - 1<<32, math.MaxInt64, math.MaxInt64 - 1, math.MinInt64, math.MinInt64 + 1, math.MinInt64 + 256}
)

// quanta are permitted, from the least to the greatest one.
var quanta = []int64{leastQuantum, leastQuantum + 1, 1000, 4096, 65535, 1 << 19, mostAirtime - 1, mostAirtime}

// badLists are lists that are not permitted as those of the ready stations.
func badLists() [][]int {
	lists := [][]int{{1, 0}, {0, 0}, {15, 15}, {15, 0}, {0, 1, 1}, {0, 0, 1}, {0, 2, 1}, {1, 0, 2}, {2, 1, 0}, {0, 1, 2, 3, 3}, {0, 1, 2, 3, 2}, {5, 6, 7, 0, 8}, {1, 3, 2, 4}, {0, 14, 13, 15}}
	for _, bad := range badStations {
		lists = append(lists, []int{bad}, []int{0, bad}, []int{bad, 0}, []int{0, bad, 1}, []int{0, 1, bad}, []int{bad, 15}, []int{0, 1, 15, bad}, []int{bad, bad})
	}
	all := stations(0, stationCount)
	for i := range all {
		twice := slices.Insert(slices.Clone(all), i, all[i])
		lists = append(lists, twice, append(slices.Clone(all), all[i]))
		if i > 0 {
			swapped := slices.Clone(all)
			swapped[i-1], swapped[i] = swapped[i], swapped[i-1]
			lists = append(lists, swapped)
		}
	}
	return append(lists, append(slices.Clone(all), 16), append([]int{-1}, all...), slices.Repeat([]int{0}, 1000))
}

// stations returns the numbers from first to the one before limit.
func stations(first, limit int) []int {
	var out []int
	for station := first; station < limit; station++ {
		out = append(out, station)
	}
	return out
}

// members returns the numbers of the bits of a set.
func members(set int) []int {
	var out []int
	for station := range stationCount {
		if set>>station&1 == 1 {
			out = append(out, station)
		}
	}
	return out
}

// model is a second wording of the chapter: each station that is there has a place, the head has the least one, and a station that turns gets a new place behind all others. Deficits follow from what has been added and charged.
type model struct {
	quantum        int64
	places         [stationCount]int // 0 for a station that is not there
	lastPlace      int
	weights, turns [stationCount]int
	charged        [stationCount]int64
	sender         int // the station that may be charged, or -1
}

func newModel(quantum int64) *model {
	return &model{quantum: quantum, sender: -1}
}

func (m *model) isThere(station int) bool {
	return station >= 0 && station < stationCount && m.places[station] > 0
}

func (m *model) toEnd(station int) {
	m.lastPlace++
	m.places[station] = m.lastPlace
}

func (m *model) Join(station, weight int) api.Errno {
	switch {
	case station < 0, station > 15, weight < 1, weight > 16:
		return api.ErrInvalid
	case m.isThere(station):
		return api.ErrDuplicate
	}
	m.toEnd(station)
	m.weights[station], m.turns[station], m.charged[station] = weight, 0, 0
	m.sender = -1
	return api.OK
}

func (m *model) Leave(station int) api.Errno {
	if !m.isThere(station) {
		return api.ErrNotFound
	}
	m.places[station] = 0
	m.sender = -1
	return api.OK
}

// head returns the station with the least place, or -1.
func (m *model) head() int {
	head := -1
	for station, place := range m.places {
		if place > 0 && (head < 0 || place < m.places[head]) {
			head = station
		}
	}
	return head
}

func (m *model) Next(ready []int) (int, api.Errno) {
	var isReady [stationCount]bool
	someone := false
	for i, station := range ready {
		if station < 0 || station > 15 || i > 0 && ready[i-1] >= station {
			return 0, api.ErrInvalid
		}
		isReady[station] = true
		someone = someone || m.isThere(station)
	}
	if !someone {
		return 0, api.ErrEmpty
	}
	for {
		head := m.head()
		rest, _ := m.Deficit(head)
		if isReady[head] && rest > 0 {
			m.sender = head
			return head, api.OK
		}
		if rest <= 0 {
			m.turns[head]++
		}
		m.toEnd(head)
	}
}

func (m *model) Charge(airtime int64) api.Errno {
	switch {
	case airtime < 1, airtime > 1048576:
		return api.ErrInvalid
	case m.sender < 0:
		return api.ErrState
	}
	m.charged[m.sender] += airtime
	m.sender = -1
	return api.OK
}

func (m *model) Deficit(station int) (int64, bool) {
	if !m.isThere(station) {
		return 0, false
	}
	return m.quantum*int64(m.weights[station])*int64(m.turns[station]+1) - m.charged[station], true
}

func (m *model) Order() []int {
	var out []int
	for station := range m.places {
		if m.isThere(station) {
			out = append(out, station)
		}
	}
	slices.SortFunc(out, func(a, b int) int { return m.places[a] - m.places[b] })
	return out
}

func (m *model) Turns(station int) int {
	if !m.isThere(station) {
		return 0
	}
	return m.turns[station]
}

// round is what a round and a model have in common.
type round interface {
	Join(station, weight int) api.Errno
	Leave(station int) api.Errno
	Next(ready []int) (int, api.Errno)
	Charge(airtime int64) api.Errno
	Deficit(station int) (int64, bool)
	Order() []int
	Turns(station int) int
}

// state is all that can be seen of a station.
type state struct {
	deficit int64
	there   bool
	turns   int
}

// view is all that can be seen of a round.
type view struct {
	order  []int
	states [stationCount]state
}

func seen(x round) view {
	v := view{order: x.Order()}
	for station := range v.states {
		s := &v.states[station]
		s.deficit, s.there = x.Deficit(station)
		s.turns = x.Turns(station)
	}
	return v
}

func (v view) equals(w view) bool {
	return slices.Equal(v.order, w.order) && v.states == w.states
}

// Kinds of steps.
const (
	join = iota
	leave
	next
	charge
	kinds
)

// step is a call of a method that may change a round: station is for Join and Leave, weight for Join, ready for Next and airtime for Charge.
type step struct {
	kind, station, weight int
	ready                 []int
	airtime               int64
}

func joins(station, weight int) step { return step{kind: join, station: station, weight: weight} }
func leaves(station int) step        { return step{kind: leave, station: station} }
func nexts(ready ...int) step        { return step{kind: next, ready: ready} }
func charges(airtime int64) step     { return step{kind: charge, airtime: airtime} }

// take takes a step and returns its results; all but Next have no other than the error.
func take(x round, s step) (int, api.Errno) {
	switch s.kind {
	case join:
		return 0, x.Join(s.station, s.weight)
	case leave:
		return 0, x.Leave(s.station)
	case next:
		return x.Next(s.ready)
	}
	return 0, x.Charge(s.airtime)
}

// pair is a round beside a model with the same calls.
type pair struct {
	x *deficit.Round
	m *model
}

// newPair returns a pair with stations from 0 on that have these weights.
func newPair(t *testing.T, quantum int64, weights ...int) pair {
	t.Helper()
	x, err := deficit.New(quantum)
	if x == nil || err != api.OK {
		t.Fatalf("New(%d) = %v, %d", quantum, x, err)
	}
	p := pair{x, newModel(quantum)}
	p.check(t, "new")
	for station, weight := range weights {
		p.all(t, joins(station, weight))
	}
	return p
}

// check checks all that can be seen of the round.
func (p pair) check(t *testing.T, what any) {
	t.Helper()
	if got, want := seen(p.x), seen(p.m); !got.equals(want) {
		t.Fatalf("%+v: %+v, want %+v", what, got, want)
	}
}

// run takes a step on both and returns the results, which must be the same, as must all that can be seen.
func (p pair) run(t *testing.T, s step) (int, api.Errno) {
	t.Helper()
	got, err := take(p.x, s)
	want, wantErr := take(p.m, s)
	if got != want || err != wantErr {
		t.Fatalf("%+v: %d, %d, want %d, %d", s, got, err, want, wantErr)
	}
	p.check(t, s)
	return got, err
}

// all takes steps that must succeed.
func (p pair) all(t *testing.T, steps ...step) {
	t.Helper()
	for _, s := range steps {
		if _, err := p.run(t, s); err != api.OK {
			t.Fatalf("%+v: %d", s, err)
		}
	}
}

// fails takes a step that must have an error and return 0 beside it, without an effect that can be seen.
func (p pair) fails(t *testing.T, s step, want api.Errno) {
	t.Helper()
	was := seen(p.x)
	if got, err := p.run(t, s); got != 0 || err != want {
		t.Fatalf("%+v: %d, %d, want 0, %d", s, got, err, want)
	}
	if is := seen(p.x); !is.equals(was) {
		t.Fatalf("%+v: %+v has become %+v", s, was, is)
	}
}

// sends lets Next return a station that the test writes out, and charges it.
func (p pair) sends(t *testing.T, want int, airtime int64, ready ...int) {
	t.Helper()
	p.wantNext(t, want, ready...)
	p.all(t, charges(airtime))
}

// wantNext checks a result of Next that the test writes out.
func (p pair) wantNext(t *testing.T, want int, ready ...int) {
	t.Helper()
	if got, err := p.run(t, nexts(ready...)); got != want || err != api.OK {
		t.Fatalf("Next(%v) = %d, %d, want %d, 0", ready, got, err, want)
	}
}

// wantOrder checks an order that the test writes out.
func (p pair) wantOrder(t *testing.T, want ...int) {
	t.Helper()
	if got := p.x.Order(); !slices.Equal(got, want) {
		t.Errorf("Order() = %v, want %v", got, want)
	}
}

// wantState checks a deficit and a number of replenishments that the test writes out, of a station that is there.
func (p pair) wantState(t *testing.T, station int, rest int64, turns int) {
	t.Helper()
	got, there := p.x.Deficit(station)
	if gotTurns := p.x.Turns(station); got != rest || !there || gotTurns != turns {
		t.Errorf("station %d: %d, %t, %d, want %d, true, %d", station, got, there, gotTurns, rest, turns)
	}
}

// wantDeficits checks the deficits of the stations from 0 on.
func (p pair) wantDeficits(t *testing.T, want ...int64) {
	t.Helper()
	for station, rest := range want {
		if got, there := p.x.Deficit(station); got != rest || !there {
			t.Errorf("Deficit(%d) = %d, %t, want %d, true", station, got, there, rest)
		}
	}
}

// wantTurns checks the numbers of replenishments of the stations from 0 on.
func (p pair) wantTurns(t *testing.T, want ...int) {
	t.Helper()
	for station, turns := range want {
		if got := p.x.Turns(station); got != turns {
			t.Errorf("Turns(%d) = %d, want %d", station, got, turns)
		}
	}
}

// wantGone checks that a station is not there.
func (p pair) wantGone(t *testing.T, station int) {
	t.Helper()
	rest, there := p.x.Deficit(station)
	if turns := p.x.Turns(station); rest != 0 || there || turns != 0 || slices.Contains(p.x.Order(), station) {
		t.Errorf("station %d: %d, %t, %d, in the order %v, want 0, false, 0", station, rest, there, turns, p.x.Order())
	}
}

// TestExample checks the chapter's example.
func TestExample(t *testing.T) {
	p := newPair(t, 1000, 1, 2)
	for _, c := range []struct {
		station int
		before  int64
	}{{0, 1000}, {0, 400}, {1, 2000}, {1, 1400}, {1, 800}, {1, 200}, {0, 800}, {0, 200}, {1, 1600}, {1, 1000}, {1, 400}, {0, 600}, {1, 1800}} {
		p.wantNext(t, c.station, 0, 1)
		if before, there := p.x.Deficit(c.station); before != c.before || !there {
			t.Errorf("Deficit(%d) = %d, %t before sending, want %d, true", c.station, before, there, c.before)
		}
		p.all(t, charges(600))
	}
}

// TestNew checks P21.1, with quanta that can be seen by what a station gets.
func TestNew(t *testing.T) {
	for quantum := int64(leastQuantum); quantum <= mostAirtime; quantum += 1 + quantum/300 {
		p := newPair(t, quantum)
		p.wantOrder(t)
		p.all(t, joins(5, 1))
		p.wantState(t, 5, quantum, 0)
	}
	for _, quantum := range quanta {
		p := newPair(t, quantum)
		p.wantOrder(t)
		for station := range stationCount {
			p.wantGone(t, station)
		}
		p.fails(t, nexts(stations(0, 16)...), api.ErrEmpty)
		p.fails(t, charges(1), api.ErrState)
	}
	bad := slices.Clone(badQuanta)
	for quantum := int64(-1000); quantum < leastQuantum; quantum++ {
		bad = append(bad, quantum)
	}
	for _, quantum := range bad {
		if x, err := deficit.New(quantum); x != nil || err != api.ErrInvalid {
			t.Errorf("New(%d) = %v, %d, want nil, %d", quantum, x, err, api.ErrInvalid)
		}
	}
}

// TestJoin checks Join in P21.2 on a new round: each station with each weight.
func TestJoin(t *testing.T) {
	for _, quantum := range quanta {
		for station := range stationCount {
			for weight := 1; weight <= heaviest; weight++ {
				p := newPair(t, quantum)
				p.all(t, joins(station, weight))
				p.wantOrder(t, station)
				p.wantState(t, station, quantum*int64(weight), 0)
				p.wantNext(t, station, station)
				p.wantState(t, station, quantum*int64(weight), 0)
			}
		}
	}
}

// TestJoinOrder checks that a station joins at the end of the order, whichever station is the head then.
func TestJoinOrder(t *testing.T) {
	source := rand.New(rand.NewPCG(211, 212))
	for range 50 {
		p := newPair(t, 1000)
		order := source.Perm(stationCount)
		for _, station := range order {
			p.all(t, joins(station, 1+station))
		}
		p.wantOrder(t, order...)
	}
	for head := range 5 {
		p := newPair(t, 1000, 1, 1, 1, 1, 1)
		p.wantNext(t, head, head)
		p.all(t, joins(9, 3))
		want := append(stations(head, 5), stations(0, head)...)
		p.wantOrder(t, append(want, 9)...)
		p.wantState(t, 9, 3000, 0)
		p.wantNext(t, 9, 9)
		p.all(t, joins(8, 1), joins(10, 1))
		p.wantOrder(t, append(append([]int{9}, want...), 8, 10)...)
	}
}

// TestJoinErrors checks the errors of Join in P21.2 and their order, for stations that are there, have left or have never joined.
func TestJoinErrors(t *testing.T) {
	p := newPair(t, 1000, 3, 4, 5)
	p.sends(t, 0, 3500, 0)
	p.wantNext(t, 1, 1)
	p.all(t, leaves(1))
	for _, station := range badStations {
		for _, weight := range slices.Concat([]int{1, 16}, badWeights) {
			p.fails(t, joins(station, weight), api.ErrInvalid)
		}
	}
	for _, station := range []int{0, 1, 2, 3, 15} {
		for _, weight := range badWeights {
			p.fails(t, joins(station, weight), api.ErrInvalid)
		}
	}
	for _, station := range []int{0, 2} {
		for weight := 1; weight <= heaviest; weight++ {
			p.fails(t, joins(station, weight), api.ErrDuplicate)
		}
	}
	p.wantOrder(t, 2, 0)
	p.wantState(t, 0, 2500, 1)
	p.wantState(t, 2, 5000, 0)
	full := newPair(t, 256, slices.Repeat([]int{1}, stationCount)...)
	for station := range stationCount {
		full.fails(t, joins(station, 2), api.ErrDuplicate)
	}
}

// TestLeave checks Leave in P21.2: each station of each number of them, with each one as the head.
func TestLeave(t *testing.T) {
	for n := 1; n <= stationCount; n++ {
		for head := range n {
			for station := range n {
				p := newPair(t, 500, slices.Repeat([]int{2}, n)...)
				p.sends(t, head, 300, head)
				p.all(t, leaves(station))
				p.wantGone(t, station)
				var want []int
				for _, other := range append(stations(head, n), stations(0, head)...) {
					if other != station {
						want = append(want, other)
					}
				}
				p.wantOrder(t, want...)
				for _, other := range want {
					rest := int64(1000)
					if other == head {
						rest = 700
					}
					p.wantState(t, other, rest, 0)
				}
				p.fails(t, leaves(station), api.ErrNotFound)
			}
		}
	}
}

// TestLeaveErrors checks ErrNotFound of Leave in P21.2 for stations that have never joined, have left or cannot join.
func TestLeaveErrors(t *testing.T) {
	none, some, left := newPair(t, 1000), newPair(t, 1000, 3, 4, 5), newPair(t, 1000, 3)
	some.all(t, leaves(1))
	left.all(t, leaves(0))
	for _, p := range []pair{none, some, left} {
		for station := range stationCount {
			if !p.m.isThere(station) {
				p.fails(t, leaves(station), api.ErrNotFound)
			}
		}
		for _, station := range badStations {
			p.fails(t, leaves(station), api.ErrNotFound)
		}
	}
	some.wantOrder(t, 0, 2)
}

// TestAgain checks that a station that joins again begins anew: at the end, with its new weight, a full deficit, and no replenishments.
func TestAgain(t *testing.T) {
	p := newPair(t, 1000, 1, 2)
	p.sends(t, 0, 5500, 0)
	p.sends(t, 1, 2500, 1)
	p.wantNext(t, 0, 0)
	p.wantState(t, 0, 500, 5)
	p.wantState(t, 1, 1500, 1)
	p.all(t, leaves(0), joins(0, 3))
	p.wantOrder(t, 1, 0)
	p.wantState(t, 0, 3000, 0)
	p.wantState(t, 1, 1500, 1)
	p.sends(t, 0, 3000, 0)
	p.wantNext(t, 1, 1)
	p.wantState(t, 0, 3000, 1)
	p.all(t, leaves(1), leaves(0))
	p.wantOrder(t)
	p.fails(t, nexts(0, 1), api.ErrEmpty)
	p.all(t, joins(1, 16))
	p.wantState(t, 1, 16000, 0)
	p.wantGone(t, 0)
	p.wantNext(t, 1, 0, 1)
}

// TestHead checks in P21.3 what becomes of a head: each deficit around 0, of a station that is ready and of one that is not.
func TestHead(t *testing.T) {
	for _, rest := range []int64{2000, 1999, 1001, 1000, 999, 2, 1, 0, -1, -2, -999, -1000, -1001, -1999, -2000, -2001, -5000} {
		p := newPair(t, 1000, 2, 3)
		if rest < 2000 {
			p.sends(t, 0, 2000-rest, 0)
			p.wantOrder(t, 0, 1)
			p.wantState(t, 0, rest, 0)
		}
		wantTurns, want := 0, rest
		for want <= 0 {
			want += 2000
			wantTurns++
		}
		if rest > 0 {
			p.wantNext(t, 0, 0, 1)
			p.wantOrder(t, 0, 1)
			p.wantNext(t, 0, 0)
			p.wantState(t, 0, rest, 0)
			p.wantNext(t, 1, 1)
			p.wantOrder(t, 1, 0)
			p.wantState(t, 0, rest, 0)
		} else {
			p.wantNext(t, 1, 0, 1)
			p.wantOrder(t, 1, 0)
			p.wantState(t, 0, rest+2000, 1)
			p.wantNext(t, 0, 0)
			p.wantOrder(t, 0, 1)
			p.wantState(t, 0, want, wantTurns)
		}
		p.wantState(t, 1, 3000, 0)
	}
}

// TestAbsent checks in P21.3 that a station which is not ready is replenished as others are when it is passed with a deficit of 0 or less, and only then.
func TestAbsent(t *testing.T) {
	p := newPair(t, 1000, 1, 2, 3)
	p.sends(t, 0, 2500, 0, 1, 2)
	p.wantDeficits(t, -1500, 2000, 3000)
	p.sends(t, 2, 3000, 2)
	p.wantOrder(t, 2, 0, 1)
	p.wantDeficits(t, -500, 2000, 0)
	p.wantTurns(t, 1, 0, 0)
	p.sends(t, 2, 2999, 2)
	p.wantOrder(t, 2, 0, 1)
	p.wantDeficits(t, 500, 2000, 1)
	p.wantTurns(t, 2, 0, 1)
	p.sends(t, 2, 6002, 2)
	p.wantDeficits(t, 500, 2000, -6001)
	// The other two are passed three times with deficits above 0.
	p.wantNext(t, 2, 2)
	p.wantOrder(t, 2, 0, 1)
	p.wantDeficits(t, 500, 2000, 2999)
	p.wantTurns(t, 2, 0, 4)
	p.sends(t, 1, 1500, 1)
	p.wantOrder(t, 1, 2, 0)
	p.wantDeficits(t, 500, 500, 2999)
	p.wantTurns(t, 2, 0, 4)
	// Stations that are not in the order are ready in vain.
	p.sends(t, 1, 500, 1, 3, 15)
	p.wantNext(t, 2, 2, 3, 4)
	p.wantOrder(t, 2, 0, 1)
	p.wantDeficits(t, 500, 2000, 2999)
	p.wantTurns(t, 2, 1, 4)
}

// TestEverySet checks P21.3 for all sets of ready stations: on a full round with full deficits from several heads, and on one whose deficits are full, used up or exceeded in part.
func TestEverySet(t *testing.T) {
	for _, head := range []int{0, 1, 7, 15} {
		x, _ := deficit.New(1000)
		for station := range stationCount {
			x.Join((head+station)%stationCount, 1)
		}
		want := head
		for set := 1; set < 1<<stationCount; set++ {
			for set>>want&1 == 0 {
				want = (want + 1) % stationCount
			}
			if got, err := x.Next(members(set)); got != want || err != api.OK {
				t.Fatalf("Next(%v) = %d, %d, want %d, 0", members(set), got, err, want)
			}
		}
		if got := x.Order()[0]; got != want {
			t.Errorf("the head is %d, want %d", got, want)
		}
	}
	for set := 1; set < 1<<5; set++ {
		for used := range 243 {
			p := newPair(t, 300, 1, 2, 3, 2, 1)
			for station, code := 0, used; station < 5; station, code = station+1, code/3 {
				rest, _ := p.x.Deficit(station)
				if code%3 > 0 {
					p.sends(t, station, rest+[]int64{0, 0, 700}[code%3], station)
				}
			}
			p.run(t, nexts(members(set)...))
			p.run(t, nexts(members(set)...))
		}
	}
}

// TestNextErrors checks the errors of Next in P21.3, their order and their lack of effect, also on what can be charged.
func TestNextErrors(t *testing.T) {
	none, some, low := newPair(t, 1000), newPair(t, 1000, 1, 2, 3), newPair(t, 1000, 1, 2, 3)
	some.wantNext(t, 1, 1)
	low.sends(t, 0, 3000, 0)
	for _, p := range []pair{none, some, low} {
		for _, list := range badLists() {
			p.fails(t, nexts(list...), api.ErrInvalid)
		}
		for _, list := range [][]int{nil, {}, {3}, {15}, {3, 4}, stations(3, 16)} {
			p.fails(t, nexts(list...), api.ErrEmpty)
		}
	}
	none.fails(t, nexts(0, 1, 2), api.ErrEmpty)
	none.fails(t, nexts(stations(0, 16)...), api.ErrEmpty)
	none.fails(t, charges(1), api.ErrState)
	low.fails(t, charges(1), api.ErrState)
	// The station that Next has returned before the errors can still be charged.
	some.all(t, charges(700))
	some.wantDeficits(t, 1000, 1300, 3000)
	some.fails(t, charges(700), api.ErrState)
	x, _ := deficit.New(1000)
	x.Join(0, 1)
	for _, list := range [][]int{nil, {}} {
		if station, err := x.Next(list); station != 0 || err != api.ErrEmpty {
			t.Errorf("Next(%v) = %d, %d, want 0, %d", list, station, err, api.ErrEmpty)
		}
	}
}

// TestReadyEmpty checks ErrEmpty in P21.3 for all sets of six ready stations and all sets in the order.
func TestReadyEmpty(t *testing.T) {
	for there := range 1 << 6 {
		p := newPair(t, 400)
		for _, station := range members(there) {
			p.all(t, joins(station, 1))
		}
		for ready := range 1 << 6 {
			if ready&there == 0 {
				p.fails(t, nexts(members(ready)...), api.ErrEmpty)
			} else {
				p.all(t, nexts(members(ready)...))
			}
		}
	}
}

// TestCharge checks P21.4: airtimes from the least to the greatest one, which are subtracted from the station that was returned and from no other.
func TestCharge(t *testing.T) {
	for _, airtime := range []int64{1, 2, 3, 255, 256, 257, 600, 999, 1000, 1001, 65535, 65536, 1 << 19, mostAirtime - 2, mostAirtime - 1, mostAirtime} {
		for _, quantum := range quanta {
			for station := range 3 {
				p := newPair(t, quantum, 4, 5, 6)
				p.sends(t, station, airtime, station)
				want := []int64{4 * quantum, 5 * quantum, 6 * quantum}
				want[station] -= airtime
				p.wantDeficits(t, want...)
				p.wantTurns(t, 0, 0, 0)
				p.wantOrder(t, station, (station+1)%3, (station+2)%3)
			}
		}
	}
	for airtime := int64(1); airtime < mostAirtime; airtime += 1 + airtime/200 {
		p := newPair(t, 65536, 1, 16)
		p.sends(t, 1, airtime, 1)
		p.wantDeficits(t, 65536, mostAirtime-airtime)
	}
}

// TestChargeInvalid checks ErrInvalid in P21.4, which comes before ErrState and leaves the station to be charged.
func TestChargeInvalid(t *testing.T) {
	p := newPair(t, 1000, 2)
	for _, airtime := range badAirtimes {
		p.fails(t, charges(airtime), api.ErrInvalid)
	}
	p.fails(t, charges(1), api.ErrState)
	p.wantNext(t, 0, 0)
	for _, airtime := range badAirtimes {
		p.fails(t, charges(airtime), api.ErrInvalid)
	}
	p.all(t, charges(mostAirtime))
	p.wantState(t, 0, 2000-mostAirtime, 0)
	for _, airtime := range badAirtimes {
		p.fails(t, charges(airtime), api.ErrInvalid)
	}
	p.fails(t, charges(mostAirtime), api.ErrState)
}

// TestChargeState checks ErrState in P21.4: after New, Charge, Join and Leave, of whichever station.
func TestChargeState(t *testing.T) {
	for _, end := range [][]step{{charges(1)}, {joins(5, 1)}, {leaves(0)}, {leaves(1)}, {leaves(2)}, {leaves(1), joins(1, 2)}, {joins(5, 1), leaves(5)}, {leaves(0), leaves(2)}, {leaves(0), leaves(1), leaves(2)}} {
		p := newPair(t, 1000, 1, 2, 3)
		p.fails(t, charges(1), api.ErrState)
		p.wantNext(t, 1, 1)
		p.all(t, end...)
		for _, airtime := range []int64{1, 600, mostAirtime} {
			p.fails(t, charges(airtime), api.ErrState)
		}
		if len(p.x.Order()) == 0 {
			continue
		}
		p.all(t, nexts(stations(0, 16)...), charges(10))
		p.fails(t, charges(10), api.ErrState)
	}
}

// TestChargeLater checks in P21.4 that what has no effect does not keep a station from being charged, nor do the methods that only read.
func TestChargeLater(t *testing.T) {
	for station := range 3 {
		p := newPair(t, 1000, 1, 2, 3)
		p.wantNext(t, station, station)
		p.fails(t, joins(16, 1), api.ErrInvalid)
		p.fails(t, joins(5, 17), api.ErrInvalid)
		p.fails(t, joins(0, 1), api.ErrDuplicate)
		p.fails(t, joins(station, 1), api.ErrDuplicate)
		p.fails(t, leaves(5), api.ErrNotFound)
		p.fails(t, leaves(-1), api.ErrNotFound)
		p.fails(t, nexts(), api.ErrEmpty)
		p.fails(t, nexts(5), api.ErrEmpty)
		p.fails(t, nexts(0, 0), api.ErrInvalid)
		p.fails(t, charges(0), api.ErrInvalid)
		p.check(t, "read")
		p.all(t, charges(100))
		want := []int64{1000, 2000, 3000}
		want[station] -= 100
		p.wantDeficits(t, want...)
		p.fails(t, charges(100), api.ErrState)
	}
}

// TestLastReturned checks in P21.4 that the station which Next returned last is charged, once, if Next is called several times, and that these calls charge nothing.
func TestLastReturned(t *testing.T) {
	for first := range 4 {
		for last := range 4 {
			p := newPair(t, 1000, 1, 1, 1, 1)
			p.wantNext(t, first, first)
			p.wantNext(t, first, first)
			p.wantNext(t, last, last)
			p.wantDeficits(t, 1000, 1000, 1000, 1000)
			p.all(t, charges(300))
			want := []int64{1000, 1000, 1000, 1000}
			want[last] = 700
			p.wantDeficits(t, want...)
			p.fails(t, charges(300), api.ErrState)
			p.wantNext(t, first, first)
			p.wantDeficits(t, want...)
		}
	}
}

// TestDeepest checks the greatest and the least deficits, and how often a station is replenished after the greatest charge: as often as its deficit is 0 or less.
func TestDeepest(t *testing.T) {
	p := newPair(t, leastQuantum, 1)
	p.sends(t, 0, 255, 0)
	p.sends(t, 0, mostAirtime, 0)
	p.wantState(t, 0, 1-mostAirtime, 0)
	p.wantNext(t, 0, 0)
	p.wantState(t, 0, 1, 4096)
	p.all(t, leaves(0), joins(0, 1))
	p.sends(t, 0, mostAirtime, 0)
	p.wantState(t, 0, 256-mostAirtime, 0)
	p.wantNext(t, 0, 0)
	p.wantState(t, 0, 256, 4096)

	full := newPair(t, leastQuantum, slices.Repeat([]int{1}, stationCount)...)
	for station := range stationCount {
		full.sends(t, station, 255, station)
		full.sends(t, station, mostAirtime, station)
	}
	full.wantNext(t, 0, stations(0, 16)...)
	for station := range stationCount {
		full.wantState(t, station, 1, 4096)
	}
	full.wantOrder(t, stations(0, 16)...)
	// One that is not ready grows as well, but not beyond its first deficit above 0.
	full.sends(t, 3, mostAirtime, 3)
	full.sends(t, 4, 1000, 4)
	full.wantNext(t, 3, 3)
	full.wantState(t, 3, 257-256, 4096+4096)
	full.wantState(t, 4, 25, 4096+4)
	full.wantState(t, 5, 1, 4096)

	heavy := newPair(t, mostAirtime, heaviest, heaviest)
	heavy.wantState(t, 0, 16777216, 0)
	for range 15 {
		heavy.sends(t, 0, mostAirtime, 0, 1)
	}
	heavy.sends(t, 0, mostAirtime-1, 0, 1)
	heavy.wantState(t, 0, 1, 0)
	heavy.sends(t, 0, mostAirtime, 0, 1)
	heavy.wantState(t, 0, 1-mostAirtime, 0)
	heavy.wantNext(t, 1, 0, 1)
	heavy.wantState(t, 0, 15728641, 1)
}

// TestNotThere checks P21.5 for stations that are not there and for numbers that are not those of stations.
func TestNotThere(t *testing.T) {
	p := newPair(t, 1000, 1, 2, 3)
	for station := range 3 {
		p.sends(t, station, 9000, station)
	}
	p.wantNext(t, 2, 2)
	p.all(t, leaves(2))
	for _, station := range slices.Concat(stations(2, 16), badStations) {
		p.wantGone(t, station)
	}
	p.wantOrder(t, 0, 1)
	p.wantState(t, 0, -4000, 4)
	p.wantState(t, 1, 1000, 4)
	p.all(t, leaves(0), leaves(1))
	for _, station := range slices.Concat(stations(0, 16), badStations) {
		p.wantGone(t, station)
	}
	p.wantOrder(t)
}

// TestTurns checks Turns in P21.5 for each weight and each number of replenishments up to 20.
func TestTurns(t *testing.T) {
	for weight := 1; weight <= heaviest; weight++ {
		for turns := range 21 {
			grant := 512 * int64(weight)
			for _, beyond := range []int64{0, 1, grant - 1} {
				p := newPair(t, 512, weight, 1)
				// The charge leaves a deficit that is above 0 after exactly this many replenishments.
				airtime := grant*int64(turns) + beyond
				if airtime == 0 {
					continue
				}
				p.sends(t, 0, airtime, 0)
				p.wantState(t, 0, grant-airtime, 0)
				p.wantNext(t, 0, 0)
				p.wantState(t, 0, grant-beyond, turns)
				p.wantState(t, 1, 512, 0)
			}
		}
	}
}

// randomNumber returns a number from 0 to n - 1, or now and then one that is not permitted.
func randomNumber(source *rand.Rand, n int, bad []int) int {
	if source.IntN(25) == 0 {
		return bad[source.IntN(len(bad))]
	}
	return source.IntN(n)
}

// randomReady returns a list of ready stations in which a part of all is missing, or now and then a list that is not permitted.
func randomReady(source *rand.Rand, n int, bad [][]int) []int {
	if source.IntN(25) == 0 {
		return slices.Clone(bad[source.IntN(len(bad))])
	}
	var ready []int
	missing := source.IntN(4)
	for station := range n {
		if source.IntN(4) >= missing {
			ready = append(ready, station)
		}
	}
	return ready
}

// randomAirtime returns an airtime that is short more often than long, or now and then one that is not permitted.
func randomAirtime(source *rand.Rand) int64 {
	if source.IntN(25) == 0 {
		return badAirtimes[source.IntN(len(badAirtimes))]
	}
	return 1 + source.Int64N(mostAirtime>>source.IntN(20))
}

// randomSteps returns steps with arguments that mostly are permitted, on the first stations. Next and Charge are more frequent than the others.
func randomSteps(source *rand.Rand, n, steps int) []step {
	bad := badLists()
	var out []step
	for range steps {
		switch source.IntN(16) {
		case 0, 1:
			weight := randomNumber(source, heaviest, badWeights)
			if weight >= 0 && weight < heaviest {
				weight++
			}
			out = append(out, joins(randomNumber(source, n, badStations), weight))
		case 2:
			out = append(out, leaves(randomNumber(source, n, badStations)))
		case 3, 4, 5, 6, 7, 8, 9:
			out = append(out, nexts(randomReady(source, n, bad)...))
		default:
			out = append(out, charges(randomAirtime(source)))
		}
	}
	return out
}

// TestRandom compares rounds with the model, step by step, and checks that each step has each of its errors.
func TestRandom(t *testing.T) {
	source := rand.New(rand.NewPCG(213, 214))
	var counts [kinds][17]int
	for _, quantum := range quanta {
		for _, n := range []int{1, 2, 3, 5, 16} {
			for range 3 {
				p := newPair(t, quantum)
				for _, s := range randomSteps(source, n, 1500) {
					_, err := p.run(t, s)
					counts[s.kind][err]++
				}
			}
		}
	}
	for kind, errs := range [kinds][]api.Errno{
		join:   {api.OK, api.ErrInvalid, api.ErrDuplicate},
		leave:  {api.OK, api.ErrNotFound},
		next:   {api.OK, api.ErrInvalid, api.ErrEmpty},
		charge: {api.OK, api.ErrInvalid, api.ErrState},
	} {
		for _, err := range errs {
			if counts[kind][err] < 500 {
				t.Errorf("steps of the kind %d had the error %d only %d times", kind, err, counts[kind][err])
			}
		}
	}
}

// TestSmall takes all sequences of five of ten steps on a new round and on one with two stations.
func TestSmall(t *testing.T) {
	steps := []step{joins(0, 1), joins(1, 2), leaves(0), leaves(1), nexts(0), nexts(1), nexts(0, 1), charges(1), charges(256), charges(1300)}
	const sequences = 100000
	for _, weights := range [][]int{nil, {1, 2}, {2, 1, 1}} {
		for sequence := range sequences {
			p := newPair(t, leastQuantum, weights...)
			for rest := sequences + sequence; rest >= len(steps); rest /= len(steps) {
				p.run(t, steps[rest%len(steps)])
			}
		}
	}
}

// TestOwnLists checks that the results of Order share no memory with each other or with the round: it changes a result, and the round after that.
func TestOwnLists(t *testing.T) {
	for n := range stationCount + 1 {
		p := newPair(t, 1000, slices.Repeat([]int{2}, n)...)
		for range 40 {
			first, second := p.x.Order(), p.x.Order()
			want := slices.Clone(second)
			for i := range first {
				first[i] = 77
			}
			_ = append(first, 78)
			p.check(t, "with a changed list")
			if n > 0 {
				p.all(t, nexts(stations(0, n)...), charges(1500))
			}
			if n > 1 {
				last := second[n-1]
				p.all(t, leaves(last), joins(last, 1))
			}
			if !slices.Equal(second, want) {
				t.Fatalf("%v has become %v", want, second)
			}
		}
	}
}

// TestReadyList checks that Next neither changes the list of the ready stations nor what is behind it, and does not keep it.
func TestReadyList(t *testing.T) {
	for set := range 1 << 8 {
		p := newPair(t, 1000, 1, 2, 3, 1, 2, 3, 1, 2)
		ready := members(set)
		behind := append(slices.Clone(ready), 91, 92)
		given := slices.Clone(behind)
		for range 6 {
			p.run(t, step{kind: next, ready: given[:len(ready)]})
			if !slices.Equal(given, behind) {
				t.Fatalf("%v has become %v", behind, given)
			}
			for i := range ready {
				given[i] = 15
			}
			p.check(t, "with a changed list")
			p.run(t, charges(2500))
			copy(given, ready)
		}
	}
	for _, list := range badLists() {
		p := newPair(t, 1000, 1, 2, 3)
		given := slices.Clone(list)
		p.fails(t, step{kind: next, ready: given}, api.ErrInvalid)
		if !slices.Equal(given, list) {
			t.Fatalf("%v has become %v", list, given)
		}
	}
}

// TestRepeated checks P2: the results depend only on the calls made before on the same round, whatever is done with another one in between.
func TestRepeated(t *testing.T) {
	source := rand.New(rand.NewPCG(215, 216))
	for _, quantum := range quanta {
		steps := randomSteps(source, 6, 600)
		run := func(between func()) (out []any) {
			x, _ := deficit.New(quantum)
			for _, s := range steps {
				between()
				station, err := take(x, s)
				out = append(out, station, err, seen(x))
			}
			return out
		}
		other := newPair(t, 1000).x
		want := run(func() {})
		for range 3 {
			noise := randomSteps(source, 16, len(steps))
			got := run(func() {
				if source.IntN(20) == 0 {
					other, _ = deficit.New(quanta[source.IntN(len(quanta))])
				}
				take(other, noise[0])
				noise = noise[1:]
			})
			if !reflect.DeepEqual(got, want) {
				t.Errorf("quantum %d: the results depend on another round", quantum)
			}
		}
	}
}

// moment is what two stations have got so far: the airtimes and the numbers of replenishments.
type moment struct {
	airtimes [2]int64
	turns    [2]int
	most     [2]int64 // the greatest charges
}

// beside lets two stations be in the order and ready throughout a run in which others come and go, and returns its moments.
func beside(t *testing.T, source *rand.Rand, p pair, a, b int) []moment {
	t.Helper()
	longest := int64(mostAirtime) >> source.IntN(20)
	var now moment
	moments := []moment{now}
	for _, s := range randomSteps(source, 6, 500) {
		switch s.kind {
		case next:
			s.ready = append(slices.DeleteFunc(s.ready, func(x int) bool { return x == a || x == b }), a, b)
			slices.Sort(s.ready)
		case charge:
			s.airtime = min(s.airtime, longest)
		case leave:
			if s.station == a || s.station == b {
				continue
			}
		}
		sender := p.m.sender
		if _, err := p.run(t, s); err == api.OK && s.kind == charge {
			if i := slices.Index([]int{a, b}, sender); i >= 0 {
				now.airtimes[i] += s.airtime
				now.most[i] = max(now.most[i], s.airtime)
			}
		}
		now.turns = [2]int{p.x.Turns(a), p.x.Turns(b)}
		moments = append(moments, now)
	}
	return moments
}

// TestConsequences checks in all intervals of random runs that the numbers of the replenishments of two stations differ by at most one, and that their airtimes satisfy the bound of chapter 26, with the greatest charges since the stations joined.
func TestConsequences(t *testing.T) {
	source := rand.New(rand.NewPCG(217, 218))
	for _, quantum := range quanta {
		for range 12 {
			p := newPair(t, quantum)
			a, b := 2, 3
			wa, wb := 1+source.IntN(heaviest), 1+source.IntN(heaviest)
			for _, station := range []int{0, 1, a, 4, b} {
				p.all(t, joins(station, []int{1, 2, wa, wb, 3}[station]))
			}
			moments := beside(t, source, p, a, b)
			for i, from := range moments {
				for _, to := range moments[i:] {
					if gap := to.turns[0] - from.turns[0] - to.turns[1] + from.turns[1]; gap < -1 || gap > 1 {
						t.Fatalf("from %+v to %+v, the numbers of replenishments differ by %d", from, to, gap)
					}
					gap := (to.airtimes[0]-from.airtimes[0])*int64(wb) - (to.airtimes[1]-from.airtimes[1])*int64(wa)
					bound := 2*quantum*int64(wa*wb) + to.most[0]*int64(wb) + to.most[1]*int64(wa)
					if gap < -bound || gap > bound {
						t.Fatalf("from %+v to %+v, the airtimes differ by %d, more than %d", from, to, gap, bound)
					}
				}
			}
			last := moments[len(moments)-1]
			if last.airtimes[0] == 0 {
				t.Errorf("station %d has not sent", a)
			}
		}
	}
}
