package channel_test

import (
	"math"
	"math/rand/v2"
	"slices"
	"testing"

	"airshare/api"
	"airshare/channel"
)

// history is the number of slots that a channel remembers, written out.
const history = 32

// Names for the states, which keep lists of them short.
const (
	y = true
	n = false
)

// The predictors without a window, with the numbers of their kinds written out.
var (
	last   = api.Predictor{Kind: 0}
	oracle = api.Predictor{Kind: 2}
)

// far are numbers that are far from all that is permitted; some of their lower bits are those of numbers that are permitted.
var far = []int{-128, 64, 65, 128, 129, 256, 257, 258, 1 << 16, 1<<16 + 1, 1<<16 + 2, 1 << 31, 1<<31 + 1, 1 << 32, 1<<32 + 1, 1<<32 + 2, 1<<40 + 1, 1<<56 + 1, -1 << 31, -1 << 32, 1 - 1<<32, 2 - 1<<32, math.MaxInt, math.MaxInt - 1, math.MinInt, math.MinInt + 1, math.MinInt + 2}

// window returns a predictor that expects k of n good states.
func window(k, n int) api.Predictor {
	return api.Predictor{Kind: 1, K: k, N: n}
}

// windows returns all predictors with a window.
func windows() []api.Predictor {
	var out []api.Predictor
	for n := 1; n <= history; n++ {
		for k := 1; k <= n; k++ {
			out = append(out, window(k, n))
		}
	}
	return out
}

// valid returns all predictors that are valid.
func valid() []api.Predictor {
	return append(windows(), last, oracle)
}

// invalid returns predictors that are not valid: for each kind the ones around those that are valid, and the ones with numbers that are far from them, in one or more places.
func invalid() []api.Predictor {
	var out []api.Predictor
	good := valid()
	for kind := -3; kind <= 5; kind++ {
		for k := -40; k <= 40; k++ {
			for n := -40; n <= 40; n++ {
				out = append(out, api.Predictor{Kind: kind, K: k, N: n})
			}
		}
	}
	for _, bad := range far {
		for _, p := range good {
			out = append(out, api.Predictor{Kind: bad, K: p.K, N: p.N}, api.Predictor{Kind: p.Kind, K: bad, N: p.N}, api.Predictor{Kind: p.Kind, K: p.K, N: bad})
		}
		for kind := -1; kind <= 3; kind++ {
			out = append(out, api.Predictor{Kind: kind, K: bad, N: bad}, api.Predictor{Kind: kind, N: bad}, api.Predictor{Kind: kind, K: bad})
		}
	}
	isGood := map[api.Predictor]bool{}
	for _, p := range good {
		isGood[p] = true
	}
	return slices.DeleteFunc(out, func(p api.Predictor) bool { return isGood[p] })
}

// model is a second wording of the chapter, which keeps all that was said to a channel.
type model struct {
	p api.Predictor
	// truth are all observations, and heard are the announcements of this slot.
	truth, heard []bool
	right        int
}

func (m *model) Observe(good bool) {
	if m.Predict() == good {
		m.right++
	}
	m.truth = append(m.truth, good)
	m.heard = nil
}

func (m *model) Announce(good bool) {
	m.heard = append(m.heard, good)
}

func (m *model) Predict() bool {
	switch m.p.Kind {
	case 1:
		bad := 0
		for _, good := range m.tail(m.p.N) {
			if !good {
				bad++
			}
		}
		return m.p.N-bad >= m.p.K
	case 2:
		if len(m.heard) > 0 {
			return m.heard[len(m.heard)-1]
		}
	}
	return !slices.Contains(m.tail(1), false)
}

func (m *model) History() []bool {
	return m.tail(32)
}

func (m *model) Score() (int, int) {
	return len(m.truth), m.right
}

// tail returns the last most observations, or all of them if there are fewer.
func (m *model) tail(most int) []bool {
	return m.truth[max(0, len(m.truth)-most):]
}

// open returns a channel with a valid predictor.
func open(t *testing.T, p api.Predictor) *channel.Channel {
	t.Helper()
	c, err := channel.New(p)
	if c == nil || err != api.OK {
		t.Fatalf("New(%v) = %v, %d", p, c, err)
	}
	return c
}

// observed returns a channel with a valid predictor that has been observed.
func observed(t *testing.T, p api.Predictor, truth ...bool) *channel.Channel {
	t.Helper()
	c := open(t, p)
	for _, good := range truth {
		c.Observe(good)
	}
	return c
}

// times returns a state n times.
func times(n int, good bool) []bool {
	return slices.Repeat([]bool{good}, n)
}

// bits returns the lowest n bits of x, the lowest one first.
func bits(n, x int) []bool {
	var out []bool
	for i := range n {
		out = append(out, x>>i&1 == 1)
	}
	return out
}

func checkPredict(t *testing.T, what any, c *channel.Channel, want bool) {
	t.Helper()
	if got := c.Predict(); got != want {
		t.Errorf("%v: Predict() = %t, want %t", what, got, want)
	}
}

func checkHistory(t *testing.T, what any, c *channel.Channel, want []bool) {
	t.Helper()
	if got := c.History(); !slices.Equal(got, want) {
		t.Errorf("%v: History() = %v, want %v", what, got, want)
	}
}

func checkScore(t *testing.T, what any, c *channel.Channel, wantAll, wantRight int) {
	t.Helper()
	if all, right := c.Score(); all != wantAll || right != wantRight {
		t.Errorf("%v: Score() = %d, %d, want %d, %d", what, all, right, wantAll, wantRight)
	}
}

// checkState checks all that a channel tells against the model, twice: to ask for it changes nothing.
func checkState(t *testing.T, c *channel.Channel, m *model) {
	t.Helper()
	for range 2 {
		checkPredict(t, *m, c, m.Predict())
		checkHistory(t, *m, c, m.History())
		all, right := m.Score()
		checkScore(t, *m, c, all, right)
	}
}

// changer is what changes a channel and its model.
type changer interface {
	Observe(good bool)
	Announce(good bool)
}

// step calls one of the four methods with an effect, with an argument: 0 and 1 observe, 2 and 3 announce.
func step(c changer, which int) {
	if which < 2 {
		c.Observe(which == 1)
	} else {
		c.Announce(which == 3)
	}
}

// TestExamples checks the chapter's examples.
func TestExamples(t *testing.T) {
	c := open(t, window(2, 3))
	checkPredict(t, "at first", c, true)
	c.Observe(false)
	checkPredict(t, "after a bad one", c, true)
	c.Observe(false)
	checkPredict(t, "after two bad ones", c, false)
	c.Observe(true)
	checkPredict(t, "after a good one that follows", c, false)
	checkPredict(t, "last", observed(t, last, false), false)
}

// TestValid checks Valid in P15.1: all predictors that are valid, and many that are not.
func TestValid(t *testing.T) {
	for _, p := range valid() {
		if !channel.Valid(p) {
			t.Errorf("Valid(%v) = false", p)
		}
	}
	for _, p := range invalid() {
		if channel.Valid(p) {
			t.Errorf("Valid(%v) = true", p)
		}
	}
}

// TestNew checks New in P15.1: what a new channel tells, and its error.
func TestNew(t *testing.T) {
	for _, p := range valid() {
		checkState(t, open(t, p), &model{p: p})
		checkPredict(t, p, open(t, p), true)
		checkHistory(t, p, open(t, p), nil)
		checkScore(t, p, open(t, p), 0, 0)
	}
	for _, p := range invalid() {
		if c, err := channel.New(p); c != nil || err != api.ErrInvalid {
			t.Errorf("New(%v) = %v, %d, want nil, %d", p, c, err, api.ErrInvalid)
		}
	}
}

// TestLast checks PredictLast in P15.2 with all states of ten slots.
func TestLast(t *testing.T) {
	for x := range 1 << 10 {
		c := open(t, last)
		for _, good := range bits(10, x) {
			c.Observe(good)
			checkPredict(t, c.History(), c, good)
		}
	}
}

// TestWindow checks PredictWindow in P15.2 with states that are written out.
func TestWindow(t *testing.T) {
	for _, test := range []struct {
		k, n  int
		truth []bool
		want  bool
	}{
		{1, 1, []bool{}, y},
		{1, 1, []bool{n}, n},
		{1, 1, []bool{n, y}, y},
		{1, 2, []bool{n}, y},
		{1, 2, []bool{n, n}, n},
		{1, 2, []bool{n, n, y}, y},
		{1, 2, []bool{n, n, y, n}, y},
		{2, 2, []bool{}, y},
		{2, 2, []bool{y}, y},
		{2, 2, []bool{n}, n},
		{2, 2, []bool{n, y}, n},
		{2, 2, []bool{n, y, y}, y},
		{2, 4, []bool{n, n}, y},
		{2, 4, []bool{n, n, n}, n},
		{2, 4, []bool{n, n, n, y}, n},
		{2, 4, []bool{n, n, n, y, y}, y},
		{3, 3, []bool{n, y, y}, n},
		{3, 3, []bool{n, y, y, y}, y},
		{1, 32, times(31, n), y},
		{1, 32, times(32, n), n},
		{1, 32, append(times(32, n), y), y},
		{32, 32, []bool{n}, n},
		{32, 32, append([]bool{n}, times(31, y)...), n},
		{32, 32, append([]bool{n}, times(32, y)...), y},
		{1, 32, append([]bool{y}, times(31, n)...), y},
		{1, 32, append([]bool{y}, times(32, n)...), n},
	} {
		checkPredict(t, []any{test.k, test.n, test.truth}, observed(t, window(test.k, test.n), test.truth...), test.want)
	}
}

// TestWindowEnds checks for each window how many bad states it takes until the prediction is bad, how many good ones until it is good again, and after how many slots a single state is forgotten.
func TestWindowEnds(t *testing.T) {
	for _, p := range windows() {
		// Before the bad states there are fewer slots than N, as many, or so many that places are used again.
		for _, before := range []int{0, 1, p.N - 1, p.N, p.N + 1, history - 1, history, history + 1, 3*history + 5} {
			c := observed(t, p, times(before, true)...)
			for bad := range 2 * p.N {
				checkPredict(t, []any{p, before, "bad", bad}, c, bad <= p.N-p.K)
				c.Observe(false)
			}
			for good := range 2 * p.N {
				checkPredict(t, []any{p, before, "good", good}, c, good >= p.K)
				c.Observe(true)
			}
		}
		for _, before := range []int{history, history + 7} {
			// A single bad state counts only where all have to be good, a single good one only where one has to be.
			bad := observed(t, p, append(times(before, true), false)...)
			good := observed(t, p, append(times(before, false), true)...)
			for age := 1; age <= history+2; age++ {
				inside := age <= p.N
				checkPredict(t, []any{p, before, "bad", age}, bad, !(inside && p.K == p.N))
				checkPredict(t, []any{p, before, "good", age}, good, inside && p.K == 1)
				bad.Observe(true)
				good.Observe(false)
			}
		}
	}
}

// TestShortWindows checks all windows of up to six slots with all states of nine slots.
func TestShortWindows(t *testing.T) {
	for _, p := range windows() {
		if p.N > 6 {
			continue
		}
		for x := range 1 << 9 {
			c, m := open(t, p), &model{p: p}
			for _, good := range bits(9, x) {
				c.Observe(good)
				m.Observe(good)
				checkState(t, c, m)
			}
		}
	}
}

// TestOracle checks PredictOracle in P15.2 with calls that are written out.
func TestOracle(t *testing.T) {
	c := open(t, oracle)
	checkPredict(t, "at first", c, true)
	c.Announce(false)
	checkPredict(t, "announced", c, false)
	checkPredict(t, "announced", c, false)
	c.Announce(true)
	checkPredict(t, "announced again", c, true)
	c.Announce(false)
	c.Observe(true)
	checkPredict(t, "the next slot, after a good one", c, true)
	c.Announce(true)
	c.Observe(false)
	checkPredict(t, "the next slot, after a bad one", c, false)
	c.Announce(true)
	checkPredict(t, "announced after a bad one", c, true)
	c.Observe(false)
	checkPredict(t, "after two bad ones", c, false)
	c.Observe(true)
	checkPredict(t, "without an announcement", c, true)
	checkHistory(t, "at last", c, []bool{y, n, n, y})
	checkScore(t, "at last", c, 4, 0)
}

// TestAnnounce checks in P15.3 that announcements have no effect but for PredictOracle, for all other predictors.
func TestAnnounce(t *testing.T) {
	for _, p := range append(windows(), last) {
		c, m := open(t, p), &model{p: p}
		for i := range 2*history + 3 {
			good := i/3%2 == 0
			for _, announced := range []bool{!good, good, !m.Predict()} {
				c.Announce(announced)
				checkPredict(t, []any{p, i, announced}, c, m.Predict())
			}
			c.Observe(good)
			m.Observe(good)
			checkState(t, c, m)
		}
	}
}

// TestShortCalls checks a few predictors with all sequences of up to seven calls with an effect.
func TestShortCalls(t *testing.T) {
	for _, p := range []api.Predictor{last, oracle, window(1, 1), window(1, 2), window(2, 2), window(2, 3), window(4, 4)} {
		for x := range 1 << 14 {
			c, m := open(t, p), &model{p: p}
			for i := range 7 {
				step(c, x>>(2*i)&3)
				step(m, x>>(2*i)&3)
				// What is asked between the calls must not matter: for some sequences it is asked after each call, for the others only at the end.
				if i == 6 || x < 1<<12 {
					checkState(t, c, m)
				}
			}
		}
	}
}

// TestHistory checks History in P15.3: lists of each length with one good or bad state at each place, for each kind of predictor.
func TestHistory(t *testing.T) {
	for _, p := range []api.Predictor{last, oracle, window(1, 1), window(5, 9), window(1, 32), window(32, 32)} {
		for length := range 3*history + 2 {
			for i := range length {
				for _, good := range []bool{false, true} {
					truth := times(length, !good)
					truth[i] = good
					checkHistory(t, []any{p, length, i}, observed(t, p, truth...), truth[max(0, length-history):])
				}
			}
		}
	}
}

// TestScore checks Score in P15.3 with states that are written out.
func TestScore(t *testing.T) {
	checkScore(t, "good", observed(t, last, y), 1, 1)
	checkScore(t, "bad", observed(t, last, n), 1, 0)
	checkScore(t, "in turn", observed(t, last, n, y, n, y), 4, 0)
	checkScore(t, "runs", observed(t, last, y, n, n, n, y, y), 6, 4)
	checkScore(t, "window", observed(t, window(2, 3), n, n, y, n, y, n), 6, 1)
	checkScore(t, "window", observed(t, window(2, 3), n, y, n, y, y), 5, 2)
	checkScore(t, "window", observed(t, window(1, 3), n, n, n, n, n), 5, 2)
	c := open(t, oracle)
	for i := range 10 {
		// The last announcement before Observe counts; what is announced afterwards belongs to the next slot.
		c.Announce(i%2 == 0)
		c.Announce(i%2 != 0)
		c.Observe(i%2 != 0)
		checkScore(t, i, c, i+1, i+1)
		c.Announce(i%2 != 0)
		checkScore(t, i, c, i+1, i+1)
	}
	c.Observe(false)
	checkScore(t, "a wrong announcement", c, 11, 10)
}

// TestLong checks that nothing ends with the slots of a run: the history is always the last one, and the score goes on.
func TestLong(t *testing.T) {
	c, m := open(t, window(17, 29)), &model{p: window(17, 29)}
	random := rand.New(rand.NewPCG(151, 1))
	for i := range 70000 {
		good := random.IntN(29) < 17
		c.Observe(good)
		m.Observe(good)
		if i%997 == 0 || i > 65530 && i < 65540 {
			checkState(t, c, m)
		}
	}
	checkState(t, c, m)
}

// TestRandom compares each predictor with the model in random calls, where good and bad states are more and less frequent.
func TestRandom(t *testing.T) {
	random := rand.New(rand.NewPCG(152, 1))
	for _, p := range valid() {
		for goods := 1; goods < 10; goods++ {
			c, m := open(t, p), &model{p: p}
			for range 150 {
				which := 0
				if random.IntN(10) < goods {
					which = 1
				}
				if random.IntN(3) == 0 {
					which += 2
				}
				step(c, which)
				step(m, which)
				checkState(t, c, m)
			}
		}
	}
}

// TestTrueOracle checks the first consequence: if each slot is announced truly, PredictOracle is always right, whatever was announced before.
func TestTrueOracle(t *testing.T) {
	random := rand.New(rand.NewPCG(153, 1))
	c := open(t, oracle)
	for i := range 2000 {
		good := random.IntN(2) == 0
		for range random.IntN(3) {
			c.Announce(random.IntN(2) == 0)
		}
		c.Announce(good)
		checkPredict(t, i, c, good)
		c.Observe(good)
		checkScore(t, i, c, i+1, i+1)
	}
}

// TestLastIsWindow checks the second consequence: PredictLast is the same as PredictWindow with K and N equal to 1.
func TestLastIsWindow(t *testing.T) {
	random := rand.New(rand.NewPCG(154, 1))
	a, b := open(t, last), open(t, window(1, 1))
	for i := range 2000 {
		which := random.IntN(4)
		step(a, which)
		step(b, which)
		checkPredict(t, i, a, b.Predict())
		checkHistory(t, i, a, b.History())
		all, right := b.Score()
		checkScore(t, i, a, all, right)
	}
}

// TestMemory checks that a history shares no memory with the channel or with another history.
func TestMemory(t *testing.T) {
	for _, p := range []api.Predictor{last, oracle, window(2, 3), window(32, 32)} {
		for _, length := range []int{1, 3, history - 1, history, history + 1, 2 * history, 3*history + 1} {
			c, m := open(t, p), &model{p: p}
			for i := range length {
				c.Observe(i%3 != 0)
				m.Observe(i%3 != 0)
			}
			kept := c.History()
			spoiled := c.History()
			for i := range spoiled {
				spoiled[i] = !spoiled[i]
			}
			checkState(t, c, m)
			want := slices.Clone(m.History())
			if !slices.Equal(kept, want) {
				t.Errorf("%v: History() became %v, want %v", p, kept, want)
			}
			// What is appended to a history must not get into the channel either.
			_ = append(c.History(), false, false, false)
			checkState(t, c, m)
			for range history {
				c.Observe(false)
				m.Observe(false)
			}
			if !slices.Equal(kept, want) {
				t.Errorf("%v: History() became %v, want %v", p, kept, want)
			}
			checkState(t, c, m)
		}
	}
}

// TestRepeated checks P2: channels do not depend on each other, and the same calls have the same results.
func TestRepeated(t *testing.T) {
	all := valid()
	var channels [2][]*channel.Channel
	for i := range channels {
		for _, p := range all {
			channels[i] = append(channels[i], open(t, p))
		}
	}
	random := rand.New(rand.NewPCG(155, 1))
	// The first set of channels gets its calls slot by slot, the second one channel by channel.
	calls := make([][]int, len(all))
	for range 100 {
		for j, c := range channels[0] {
			which := random.IntN(4)
			step(c, which)
			calls[j] = append(calls[j], which)
		}
	}
	for j := len(all) - 1; j >= 0; j-- {
		m := &model{p: all[j]}
		for _, which := range calls[j] {
			step(channels[1][j], which)
			step(m, which)
		}
		checkState(t, channels[1][j], m)
		checkState(t, channels[0][j], m)
	}
}
