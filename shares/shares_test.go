package shares_test

import (
	"cmp"
	"math"
	"math/big"
	"math/rand/v2"
	"reflect"
	"slices"
	"testing"

	"airshare/api"
	"airshare/shares"
)

const (
	least     = math.MinInt64
	greatest  = math.MaxInt64
	maxWeight = 1 << 31
	maxCap    = 2 * api.MaxBound
)

// weighted returns parts with the numbers 0, 1, .. and these weights.
func weighted(weights ...int64) []api.Part {
	var out []api.Part
	for i, w := range weights {
		out = append(out, api.Part{ID: i, Weight: w})
	}
	return out
}

// many returns n parts of the same weight.
func many(n int, weight int64) []api.Part {
	return weighted(slices.Repeat([]int64{weight}, n)...)
}

// invalid returns lists of parts that are not valid, each for a single reason.
func invalid() [][]api.Part {
	return [][]api.Part{
		many(api.MaxShares+1, 1),
		many(1000, 1),
		{{ID: -1, Weight: 1}},
		{{ID: math.MinInt, Weight: 1}},
		{{ID: -2, Weight: 1}, {ID: 3, Weight: 1}},
		{{ID: 0, Weight: 1}, {ID: 0, Weight: 1}},
		{{ID: 7, Weight: 1}, {ID: 7, Weight: 2}},
		{{ID: 2, Weight: 1}, {ID: 1, Weight: 1}},
		{{ID: 0, Weight: 1}, {ID: 5, Weight: 1}, {ID: 3, Weight: 1}},
		{{ID: 0, Weight: 1}, {ID: math.MaxInt, Weight: 1}, {ID: math.MinInt, Weight: 1}},
		weighted(0),
		weighted(-1),
		weighted(least),
		weighted(maxWeight + 1),
		weighted(greatest),
		weighted(1, 2, 0),
		weighted(1, 2, maxWeight+1),
		weighted(0, 2, 3),
	}
}

// random returns a source that is the same in each run.
func random() *rand.Rand { return rand.New(rand.NewPCG(3, 4)) }

// size returns a number from 0 to most, of very different sizes.
func size(source *rand.Rand, most int64) int64 {
	return int64(source.Uint64N(uint64(most>>source.IntN(63)) + 1))
}

// randomParts returns valid parts, at least one, with gaps between their IDs.
func randomParts(source *rand.Rand) []api.Part {
	var out []api.Part
	id := source.IntN(3)
	for range 1 + source.IntN(api.MaxShares>>source.IntN(6)) {
		out = append(out, api.Part{ID: id, Weight: max(1, size(source, maxWeight))})
		id += 1 + source.IntN(1<<source.IntN(40))
	}
	return out
}

func sum(numbers []int64) *big.Int {
	total := new(big.Int)
	for _, n := range numbers {
		total.Add(total, big.NewInt(n))
	}
	return total
}

// wantSplit returns what Split has to return for valid parts, of which there is at least one.
func wantSplit(amount int64, parts []api.Part) []int64 {
	var weights, out []int64
	for _, p := range parts {
		weights = append(weights, p.Weight)
	}
	for _, w := range weights {
		share := new(big.Int).Mul(big.NewInt(amount), big.NewInt(w))
		// Quo rounds toward zero.
		out = append(out, share.Quo(share, sum(weights)).Int64())
	}
	left := new(big.Int).Sub(big.NewInt(amount), sum(out))
	out[0] = left.Add(left, big.NewInt(out[0])).Int64()
	return out
}

// wantFill returns what Fill has to return for arguments that are permitted, and the number of rounds. It follows the words of the chapter, with a map of the open parts.
func wantFill(amount int64, parts []api.Part, caps []int64) ([]int64, int64, int) {
	given := make([]int64, len(parts))
	rest := amount
	for rounds := 0; ; rounds++ {
		position := map[int]int{}
		var open []api.Part
		for i, p := range parts {
			if given[i] < caps[i] {
				position[p.ID] = i
				open = append(open, p)
			}
		}
		if rest == 0 || len(open) == 0 {
			return given, rest, rounds
		}
		next := int64(0)
		for k, share := range wantSplit(rest, open) {
			i := position[open[k].ID]
			if room := caps[i] - given[i]; share > room {
				next += share - room
				share = room
			}
			given[i] += share
		}
		rest = next
	}
}

// wantApportion returns what Apportion has to return for arguments that are permitted: the units in the order in which each of them is due, and the first of them taken.
func wantApportion(amount int, parts []api.Part) []int {
	type unit struct {
		part   int
		number int64
	}
	var units []unit
	for i := range parts {
		for n := range amount {
			units = append(units, unit{i, int64(n + 1)})
		}
	}
	slices.SortFunc(units, func(x, y unit) int {
		// Products of a number of units and a weight fit easily.
		order := cmp.Compare(x.number*parts[y.part].Weight, y.number*parts[x.part].Weight)
		return cmp.Or(order, cmp.Compare(x.part, y.part))
	})
	out := make([]int, len(parts))
	for _, u := range units[:amount] {
		out[u.part]++
	}
	return out
}

func checkSplit(t *testing.T, amount int64, parts []api.Part) {
	t.Helper()
	got, err := shares.Split(amount, parts)
	if want := wantSplit(amount, parts); !slices.Equal(got, want) || err != api.OK {
		t.Errorf("Split(%d, %v) = %v, %d, want %v, 0", amount, parts, got, err, want)
	}
	if total := sum(got); total.Cmp(big.NewInt(amount)) != 0 {
		t.Errorf("Split(%d, %v) = %v, which add up to %v", amount, parts, got, total)
	}
}

func checkFill(t *testing.T, amount int64, parts []api.Part, caps []int64) {
	t.Helper()
	got, rest, err := shares.Fill(amount, parts, caps)
	if want, wantRest, _ := wantFill(amount, parts, caps); !slices.Equal(got, want) || rest != wantRest || err != api.OK {
		t.Errorf("Fill(%d, %v, %v) = %v, %d, %d, want %v, %d, 0", amount, parts, caps, got, rest, err, want, wantRest)
		return
	}
	if total := sum(append([]int64{rest}, got...)); total.Cmp(big.NewInt(amount)) != 0 {
		t.Errorf("Fill(%d, %v, %v) = %v, %d, which add up to %v", amount, parts, caps, got, rest, total)
	}
	for i, g := range got {
		if g < 0 || g > caps[i] || rest > 0 && g < caps[i] {
			t.Errorf("Fill(%d, %v, %v) = %v, %d: part %d gets %d", amount, parts, caps, got, rest, i, g)
		}
	}
}

func checkApportion(t *testing.T, amount int, parts []api.Part) {
	t.Helper()
	got, err := shares.Apportion(amount, parts)
	if want := wantApportion(amount, parts); !slices.Equal(got, want) || err != api.OK {
		t.Errorf("Apportion(%d, %v) = %v, %d, want %v, 0", amount, parts, got, err, want)
		return
	}
	checkUnits(t, amount, parts, got)
}

// checkUnits checks the chapter's consequences for what Apportion has returned.
func checkUnits(t *testing.T, amount int, parts []api.Part, got []int) {
	t.Helper()
	total := 0
	for i, u := range got {
		total += u
		for j, v := range got {
			if i != j && u > 0 && int64(u)*parts[j].Weight > int64(v+1)*parts[i].Weight {
				t.Errorf("Apportion(%d, %v) = %v: %d units of part %d and %d of part %d", amount, parts, got, u, i, v, j)
			}
		}
	}
	if total != amount {
		t.Errorf("Apportion(%d, %v) = %v, which add up to %d", amount, parts, got, total)
	}
}

// TestValid checks P3.1.
func TestValid(t *testing.T) {
	for _, parts := range [][]api.Part{
		nil,
		{},
		weighted(1),
		weighted(maxWeight),
		weighted(1, maxWeight, 7),
		{{ID: math.MaxInt, Weight: 1}},
		{{ID: 3, Weight: 5}, {ID: 4, Weight: 1}, {ID: 900, Weight: 2}, {ID: math.MaxInt, Weight: 1}},
		many(api.MaxShares-1, 1),
		many(api.MaxShares, maxWeight),
	} {
		if !shares.Valid(parts) {
			t.Errorf("Valid(%v) = false", parts)
		}
	}
	for _, parts := range invalid() {
		if shares.Valid(parts) {
			t.Errorf("Valid(%v) = true", parts)
		}
	}
}

// TestSplit checks P3.2 but for its errors.
func TestSplit(t *testing.T) {
	for _, c := range []struct {
		amount int64
		parts  []api.Part
		want   []int64
	}{
		{10, weighted(1, 2), []int64{4, 6}},
		{-10, weighted(1, 2), []int64{-4, -6}},
		{0, weighted(1, 2), []int64{0, 0}},
		{9, weighted(1, 2), []int64{3, 6}},
		{7, weighted(1, 1, 1), []int64{3, 2, 2}},
		{-7, weighted(1, 1, 1), []int64{-3, -2, -2}},
		// The lowest ID gets what is left, whatever its weight.
		{1, weighted(1, 1000), []int64{1, 0}},
		{-1, weighted(1, 1000), []int64{-1, 0}},
		{11, weighted(1, 4, 4, 3), []int64{3, 3, 3, 2}},
		{5, []api.Part{{ID: 4, Weight: 9}, {ID: 40, Weight: 9}}, []int64{3, 2}},
		{5, weighted(3), []int64{5}},
		{greatest, weighted(3), []int64{greatest}},
		{least, weighted(3), []int64{least}},
		// The products have more than 64 bits.
		{greatest, weighted(maxWeight, maxWeight), []int64{1 << 62, 1<<62 - 1}},
		{least, weighted(maxWeight, maxWeight), []int64{-1 << 62, -1 << 62}},
		{least, weighted(1, 3), []int64{-1 << 61, -3 << 61}},
		{greatest, many(api.MaxShares, maxWeight), append([]int64{1<<57 + 62}, slices.Repeat([]int64{1<<57 - 1}, 63)...)},
	} {
		if got, err := shares.Split(c.amount, c.parts); !slices.Equal(got, c.want) || err != api.OK {
			t.Errorf("Split(%d, %v) = %v, %d, want %v, 0", c.amount, c.parts, got, err, c.want)
		}
	}
	for amount := int64(-60); amount <= 60; amount++ {
		for w := range int64(7 * 7 * 7) {
			checkSplit(t, amount, weighted(w%7+1, w/7%7+1, w/49+1))
		}
	}
	source := random()
	for range 5000 {
		parts := randomParts(source)
		amount := size(source, greatest)
		checkSplit(t, amount, parts)
		checkSplit(t, -amount, parts)
		checkSplit(t, greatest, parts)
		checkSplit(t, least, parts)
	}
}

// TestSplitErrors checks the errors of P3.2 and that there is no result beside them.
func TestSplitErrors(t *testing.T) {
	check := func(amount int64, parts []api.Part, want api.Errno) {
		t.Helper()
		if got, err := shares.Split(amount, parts); len(got) != 0 || err != want {
			t.Errorf("Split(%d, %v) = %v, %d, want [], %d", amount, parts, got, err, want)
		}
	}
	for _, amount := range []int64{0, 1, -1, greatest, least} {
		check(amount, nil, api.ErrEmpty)
		check(amount, []api.Part{}, api.ErrEmpty)
		for _, parts := range invalid() {
			check(amount, parts, api.ErrInvalid)
		}
	}
}

// TestFill checks P3.3 but for its errors.
func TestFill(t *testing.T) {
	for _, c := range []struct {
		amount int64
		parts  []api.Part
		caps   []int64
		want   []int64
		rest   int64
	}{
		{10, weighted(1, 1), []int64{2, 20}, []int64{2, 8}, 0},
		{10, weighted(1, 1), []int64{2, 3}, []int64{2, 3}, 5},
		{5, weighted(1, 1), []int64{2, 3}, []int64{2, 3}, 0},
		{0, weighted(1, 1), []int64{2, 3}, []int64{0, 0}, 0},
		{0, weighted(1, 1), []int64{0, 0}, []int64{0, 0}, 0},
		{7, weighted(1, 1), []int64{0, 0}, []int64{0, 0}, 7},
		{7, weighted(2), []int64{maxCap}, []int64{7}, 0},
		{greatest, weighted(2), []int64{maxCap}, []int64{maxCap}, greatest - maxCap},
		{greatest, weighted(1, maxWeight), []int64{maxCap, maxCap}, []int64{maxCap, maxCap}, greatest - 2*maxCap},
		// No cap matters: what is left goes to the lowest ID.
		{10, weighted(1, 2), []int64{10, 10}, []int64{4, 6}, 0},
		// A closed part has no weight, and what is left goes to the lowest ID that is open.
		{10, weighted(6, 1, 2), []int64{0, 9, 9}, []int64{0, 4, 6}, 0},
		{1, weighted(1, 1, 5), []int64{0, 0, 9}, []int64{0, 0, 1}, 0},
		// A cap that the share just reaches
		{10, weighted(1, 1), []int64{5, 5}, []int64{5, 5}, 0},
		{10, weighted(1, 1), []int64{5, 4}, []int64{5, 4}, 1},
		// Rounds of 4 3 3 and of 2 1: the first part takes only 1 of its share, which includes what was left.
		{10, weighted(1, 1, 1), []int64{1, 9, 9}, []int64{1, 5, 4}, 0},
		// Rounds of 33 21 42, of 9 18 and of 8: each of them closes a part.
		{96, weighted(3, 2, 4), []int64{6, 22, 90}, []int64{6, 22, 68}, 0},
		// Rounds of 25 25 25 25, of 10 10 and of 5
		{100, weighted(1, 1, 1, 1), []int64{10, 20, 30, 90}, []int64{10, 20, 30, 40}, 0},
		{100, weighted(1, 1, 1, 1), []int64{90, 30, 20, 10}, []int64{40, 30, 20, 10}, 0},
	} {
		if got, rest, err := shares.Fill(c.amount, c.parts, c.caps); !slices.Equal(got, c.want) || rest != c.rest || err != api.OK {
			t.Errorf("Fill(%d, %v, %v) = %v, %d, %d, want %v, %d, 0", c.amount, c.parts, c.caps, got, rest, err, c.want, c.rest)
		}
	}
	for amount := range int64(30) {
		for c := range int64(8 * 8 * 8) {
			caps := []int64{c % 8, c / 8 % 8, c / 64 * 2}
			checkFill(t, amount, weighted(1, 1, 1), caps)
			checkFill(t, amount, weighted(5, 1, 2), caps)
		}
	}
}

// TestFillRandom fills parts with very different caps, for amounts below and above the sum of the caps.
func TestFillRandom(t *testing.T) {
	source := random()
	for range 5000 {
		parts := randomParts(source)
		caps := make([]int64, len(parts))
		most := size(source, maxCap)
		for i := range caps {
			caps[i] = size(source, most)
		}
		room := sum(caps).Int64()
		for _, amount := range []int64{size(source, greatest), size(source, room), room / 2, room, room + 1, greatest} {
			checkFill(t, amount, parts, caps)
		}
	}
}

// slowCaps returns caps with which each round closes only one part, the first open one: when its round comes, it may get just one more.
func slowCaps(amount int64, parts []api.Part) []int64 {
	caps := make([]int64, len(parts))
	for i := range parts {
		split := wantSplit(amount, parts[i:])
		for k, share := range split[1:] {
			caps[i+1+k] += share
		}
		caps[i]++
		amount = split[0] - 1
	}
	return caps
}

// TestFillRounds fills parts that take many rounds, since the first open one has half of the weight of the open ones.
func TestFillRounds(t *testing.T) {
	const amount = 1 << 42
	var parts []api.Part
	for i := range 32 {
		parts = append(parts, api.Part{ID: 2 * i, Weight: maxWeight >> i})
	}
	caps := slowCaps(amount, parts)
	if _, _, rounds := wantFill(amount, parts, caps); rounds != len(parts) {
		t.Fatalf("%d rounds, want %d", rounds, len(parts))
	}
	room := sum(caps).Int64()
	for _, given := range []int64{amount, amount / 3, amount + 12345, 1, room - 1, room, room + 1, greatest} {
		checkFill(t, given, parts, caps)
	}
}

// TestFillEmpty fills no parts, which is no error.
func TestFillEmpty(t *testing.T) {
	for _, amount := range []int64{0, 1, 4, greatest} {
		for _, caps := range [][]int64{nil, {}} {
			for _, parts := range [][]api.Part{nil, {}} {
				if got, rest, err := shares.Fill(amount, parts, caps); len(got) != 0 || rest != amount || err != api.OK {
					t.Errorf("Fill(%d, %v, %v) = %v, %d, %d, want [], %d, 0", amount, parts, caps, got, rest, err, amount)
				}
			}
		}
	}
}

// TestFillErrors checks the error of P3.3 and that there is no result beside it.
func TestFillErrors(t *testing.T) {
	check := func(amount int64, parts []api.Part, caps []int64) {
		t.Helper()
		if got, rest, err := shares.Fill(amount, parts, caps); len(got) != 0 || rest != 0 || err != api.ErrInvalid {
			t.Errorf("Fill(%d, %v, %v) = %v, %d, %d, want [], 0, %d", amount, parts, caps, got, rest, err, api.ErrInvalid)
		}
	}
	for _, amount := range []int64{0, 1, greatest} {
		for _, parts := range invalid() {
			check(amount, parts, make([]int64, len(parts)))
			check(amount, parts, nil)
		}
		for _, caps := range [][]int64{
			nil, {}, {5}, {5, 5, 5},
			{-1, 5}, {5, -1}, {least, 5}, {5, least},
			{maxCap + 1, 5}, {5, maxCap + 1}, {greatest, 5}, {5, greatest},
		} {
			check(amount, weighted(1, 1), caps)
		}
		check(amount, nil, []int64{5})
		check(amount, nil, []int64{-1})
	}
	for _, amount := range []int64{-1, -10, least} {
		check(amount, weighted(1, 1), []int64{5, 5})
		check(amount, weighted(1, 1), []int64{0, 0})
		check(amount, nil, nil)
		check(amount, weighted(0), []int64{-1})
	}
	checkFill(t, 9, weighted(1, 1), []int64{0, maxCap})
	checkFill(t, 9, weighted(1, 1), []int64{maxCap, 0})
}

// TestApportion checks P3.4 but for its errors.
func TestApportion(t *testing.T) {
	for _, c := range []struct {
		amount int
		parts  []api.Part
		want   []int
	}{
		{4, weighted(1, 2), []int{1, 3}},
		{0, weighted(1, 2), []int{0, 0}},
		{1, weighted(1, 2), []int{0, 1}},
		// 1/1 and 2/2 are equal: the lowest ID comes first.
		{2, weighted(1, 2), []int{1, 1}},
		{3, weighted(1, 2), []int{1, 2}},
		{2, weighted(2, 1), []int{2, 0}},
		{5, weighted(1, 1, 1), []int{2, 2, 1}},
		{5, []api.Part{{ID: 3, Weight: 8}, {ID: 9, Weight: 8}}, []int{3, 2}},
		{3, weighted(2, 3, 6), []int{0, 1, 2}},
		{9, weighted(5), []int{9}},
		{3, weighted(1, maxWeight), []int{0, 3}},
		{3, weighted(maxWeight-1, maxWeight), []int{1, 2}},
		{api.MaxItems, weighted(1, maxWeight), []int{0, api.MaxItems}},
		{api.MaxItems, weighted(maxWeight, maxWeight), []int{api.MaxItems / 2, api.MaxItems / 2}},
		{api.MaxItems, many(api.MaxShares, 3), slices.Repeat([]int{64}, 64)},
		{api.MaxItems - 1, many(api.MaxShares, 3), append(slices.Repeat([]int{64}, 63), 63)},
	} {
		if got, err := shares.Apportion(c.amount, c.parts); !slices.Equal(got, c.want) || err != api.OK {
			t.Errorf("Apportion(%d, %v) = %v, %d, want %v, 0", c.amount, c.parts, got, err, c.want)
		}
	}
	for amount := range 40 {
		for w := range int64(7 * 7 * 7) {
			checkApportion(t, amount, weighted(w%7+1, w/7%7+1, w/49+1))
		}
	}
	source := random()
	for range 500 {
		parts := randomParts(source)
		checkApportion(t, source.IntN(100), parts)
		amount := source.IntN(api.MaxItems + 1)
		if got, err := shares.Apportion(amount, parts); err != api.OK || len(got) != len(parts) {
			t.Errorf("Apportion(%d, %v) = %v, %d", amount, parts, got, err)
		} else {
			checkUnits(t, amount, parts, got)
		}
	}
	checkApportion(t, api.MaxItems, weighted(3, maxWeight, 1, maxWeight-1))
}

// TestApportionErrors checks the errors of P3.4, their order and that there is no result beside them.
func TestApportionErrors(t *testing.T) {
	check := func(amount int, parts []api.Part, want api.Errno) {
		t.Helper()
		if got, err := shares.Apportion(amount, parts); len(got) != 0 || err != want {
			t.Errorf("Apportion(%d, %v) = %v, %d, want [], %d", amount, parts, got, err, want)
		}
	}
	for _, amount := range []int{0, 1, api.MaxItems} {
		check(amount, nil, api.ErrEmpty)
		check(amount, []api.Part{}, api.ErrEmpty)
		for _, parts := range invalid() {
			check(amount, parts, api.ErrInvalid)
		}
	}
	for _, amount := range []int{-1, math.MinInt, api.MaxItems + 1, math.MaxInt} {
		check(amount, weighted(1, 2), api.ErrInvalid)
		// ErrEmpty would apply to these as well, but ErrInvalid comes first.
		check(amount, nil, api.ErrInvalid)
		check(amount, []api.Part{}, api.ErrInvalid)
	}
}

// call is a call of each function, with the same parts.
type call struct {
	amount int64
	parts  []api.Part
	caps   []int64
}

// results is what the functions return for a call.
type results struct {
	valid        bool
	split, fill  []int64
	rest         int64
	apportioned  []int
	splitErr     api.Errno
	fillErr      api.Errno
	apportionErr api.Errno
}

func resultsOf(c call) results {
	var r results
	r.valid = shares.Valid(c.parts)
	r.split, r.splitErr = shares.Split(c.amount, c.parts)
	r.fill, r.rest, r.fillErr = shares.Fill(c.amount, c.parts, c.caps)
	r.apportioned, r.apportionErr = shares.Apportion(int(c.amount), c.parts)
	return r
}

// randomCall returns a call that is not permitted now and then.
func randomCall(source *rand.Rand) call {
	c := call{size(source, 1<<source.IntN(24)), randomParts(source), nil}
	for range c.parts {
		c.caps = append(c.caps, size(source, maxCap))
	}
	switch source.IntN(8) {
	case 0:
		c.parts[len(c.parts)-1].Weight = 0
	case 1:
		c.parts, c.caps = nil, nil
	case 2:
		c.amount = -c.amount
	}
	return c
}

// copied returns a call that shares no memory with c.
func copied(c call) call {
	return call{c.amount, slices.Clone(c.parts), slices.Clone(c.caps)}
}

// TestRepeated checks P2: neither earlier calls nor their order matter, arguments are neither changed nor retained, and results share no memory.
func TestRepeated(t *testing.T) {
	source := random()
	var calls []call
	var first []results
	for range 500 {
		c := randomCall(source)
		calls = append(calls, c)
		used := copied(c)
		first = append(first, resultsOf(used))
		if !reflect.DeepEqual(used, c) {
			t.Errorf("%+v: the arguments became %+v", c, used)
		}
		clear(used.parts)
		clear(used.caps)
	}
	for i := len(calls) - 1; i >= 0; i-- {
		again := resultsOf(copied(calls[i]))
		if !reflect.DeepEqual(again, first[i]) {
			t.Errorf("%+v: got %+v first and %+v then", calls[i], first[i], again)
		}
		// A result that shared memory with an earlier one would change it now.
		clear(again.split)
		clear(again.fill)
		clear(again.apportioned)
	}
}
