package tags_test

import (
	"cmp"
	"math"
	"math/big"
	"math/rand/v2"
	"reflect"
	"slices"
	"testing"

	"airshare/api"
	"airshare/tags"
)

// The numbers of the chapter, written out.
const (
	longest   = 4096
	heaviest  = 16
	lastFlow  = 31
	lastStart = 1099511627776
	mostBytes = 1099511627776
)

// perByte is what a byte costs for a flow with each weight; there is none with the weight 0.
var perByte = [heaviest + 1]int64{0, 720720, 360360, 240240, 180180, 144144, 120120, 102960, 90090, 80080, 72072, 65520, 60060, 55440, 51480, 48048, 45045}

// far are numbers that are far from all that is permitted as a length, a weight or a flow; some of their lower bits are those of 1.
var far = []int{-2, -16, 1 << 16, 1<<16 + 1, 1 << 30, 1 << 31, 1 << 32, 1<<32 + 1, 1<<40 + 1, 1<<56 + 1, -1 << 32, 1 - 1<<32, math.MaxInt, math.MaxInt - 1, math.MinInt, math.MinInt + 1}

// The numbers that are not permitted, in each of their places.
var (
	badLengths = append([]int{0, -1, -100, 4097, 4098, 8192}, far...)
	badWeights = append([]int{0, -1, 17, 18, 32}, far...)
	badFlows   = append([]int{-1, 32, 33, 64}, far...)
	badStarts  = []int64{-1, -2, -720720, -lastStart, lastStart + 1, lastStart + 2, 2 * lastStart, 1 << 62, -1 << 62, math.MaxInt64, math.MaxInt64 - 720720, math.MinInt64, math.MinInt64 + 1}
	badBytes   = []int64{mostBytes + 1, mostBytes + 2, -mostBytes - 1, -mostBytes - 2, 2 * mostBytes, -2 * mostBytes, 1 << 62, math.MaxInt64, math.MaxInt64 - 1, math.MinInt64, math.MinInt64 + 1}
)

// goodLengths are lengths that are permitted, with both ends.
var goodLengths = []int{1, 2, 3, 100, 1500, 2047, 2048, 4095, 4096}

// list returns a list of tags with these start tags, of different flows and weights.
func list(starts ...int64) []api.Tag {
	var out []api.Tag
	for i, start := range starts {
		out = append(out, api.Tag{Flow: 1 + 3*i, Weight: 1 + 5*i%heaviest, Start: start})
	}
	return out
}

// full returns a list of as many tags as there may be, all with the same start tag.
func full(start int64) []api.Tag {
	var out []api.Tag
	for flow := range lastFlow + 1 {
		out = append(out, api.Tag{Flow: flow, Weight: 1 + flow/2, Start: start})
	}
	return out
}

// with returns a copy of l in which one tag has been changed.
func with(l []api.Tag, i int, change func(tag *api.Tag)) []api.Tag {
	out := slices.Clone(l)
	change(&out[i])
	return out
}

// invalid returns lists that are not valid, each for a single reason: each bad number of a tag at each index of a short list and of a full one, and flows that are not ascending.
func invalid() [][]api.Tag {
	var out [][]api.Tag
	for _, l := range [][]api.Tag{list(7), list(0, 5, lastStart), full(9)} {
		for i := range l {
			for _, x := range badFlows {
				out = append(out, with(l, i, func(tag *api.Tag) { tag.Flow = x }))
			}
			for _, x := range badWeights {
				out = append(out, with(l, i, func(tag *api.Tag) { tag.Weight = x }))
			}
			for _, x := range badStarts {
				out = append(out, with(l, i, func(tag *api.Tag) { tag.Start = x }))
			}
			for k := range i {
				out = append(out, with(l, i, func(tag *api.Tag) { tag.Flow = l[k].Flow }))
				swapped := slices.Clone(l)
				swapped[i], swapped[k] = l[k], l[i]
				out = append(out, swapped)
			}
		}
	}
	for _, flow := range []int{lastFlow, lastFlow + 1, 0} {
		out = append(out, append(full(0), api.Tag{Flow: flow, Weight: 1}))
	}
	return out
}

// isValid is a second wording of what a valid list is: it looks at each number by itself, and sorts the flows.
func isValid(l []api.Tag) bool {
	var flows []int
	for _, tag := range l {
		flows = append(flows, tag.Flow)
		switch {
		case tag.Flow < 0, tag.Weight <= 0, tag.Start < 0:
			return false
		case tag.Flow > lastFlow, tag.Weight > heaviest, tag.Start > lastStart:
			return false
		}
	}
	return slices.Equal(flows, slices.Compact(slices.Sorted(slices.Values(flows))))
}

// wantLeast returns what Least has to return: the first index, when all are sorted by their start tags.
func wantLeast(l []api.Tag) int {
	if len(l) == 0 || !isValid(l) {
		return -1
	}
	var indices []int
	for i := range l {
		indices = append(indices, i)
	}
	slices.SortStableFunc(indices, func(i, k int) int { return cmp.Compare(l[i].Start, l[k].Start) })
	return indices[0]
}

// wantRebase returns what Rebase has to return.
func wantRebase(l []api.Tag, by int64) ([]api.Tag, api.Errno) {
	if !isValid(l) || by < 0 {
		return nil, api.ErrInvalid
	}
	var out []api.Tag
	for _, tag := range l {
		out = append(out, api.Tag{Flow: tag.Flow, Weight: tag.Weight, Start: tag.Start - by})
	}
	if slices.ContainsFunc(out, func(tag api.Tag) bool { return tag.Start < 0 }) {
		return nil, api.ErrRange
	}
	return out, api.OK
}

// wantNormalized returns what Normalized has to return for numbers that are permitted.
func wantNormalized(bytes int64, weight int) int64 {
	product := new(big.Int).Mul(big.NewInt(bytes), big.NewInt(720720))
	quotient, rest := product.QuoRem(product, big.NewInt(int64(weight)), new(big.Int))
	if rest.Sign() != 0 || !quotient.IsInt64() {
		panic("not exact")
	}
	return quotient.Int64()
}

func checkCost(t *testing.T, length, weight int, want int64, wantErr api.Errno) {
	t.Helper()
	if got, err := tags.Cost(length, weight); got != want || err != wantErr {
		t.Errorf("Cost(%d, %d) = %d, %d, want %d, %d", length, weight, got, err, want, wantErr)
	}
}

func checkFinish(t *testing.T, start int64, length, weight int, want int64, wantErr api.Errno) {
	t.Helper()
	if got, err := tags.Finish(start, length, weight); got != want || err != wantErr {
		t.Errorf("Finish(%d, %d, %d) = %d, %d, want %d, %d", start, length, weight, got, err, want, wantErr)
	}
}

func checkNormalized(t *testing.T, bytes int64, weight int, want int64, wantErr api.Errno) {
	t.Helper()
	if got, err := tags.Normalized(bytes, weight); got != want || err != wantErr {
		t.Errorf("Normalized(%d, %d) = %d, %d, want %d, %d", bytes, weight, got, err, want, wantErr)
	}
}

func checkLeast(t *testing.T, l []api.Tag, want int) {
	t.Helper()
	if got := tags.Least(l); got != want {
		t.Errorf("Least(%v) = %d, want %d", l, got, want)
	}
}

func checkRebase(t *testing.T, l []api.Tag, by int64, want []api.Tag, wantErr api.Errno) {
	t.Helper()
	if got, err := tags.Rebase(l, by); !slices.Equal(got, want) || err != wantErr {
		t.Errorf("Rebase(%v, %d) = %v, %d, want %v, %d", l, by, got, err, want, wantErr)
	}
}

// checkList checks all functions of lists against their second wordings.
func checkList(t *testing.T, l []api.Tag, numbers ...int64) {
	t.Helper()
	if got, want := tags.Valid(l), isValid(l); got != want {
		t.Errorf("Valid(%v) = %t, want %t", l, got, want)
	}
	checkLeast(t, l, wantLeast(l))
	for _, by := range numbers {
		want, err := wantRebase(l, by)
		checkRebase(t, l, by, want, err)
	}
}

// TestExamples checks the chapter's examples.
func TestExamples(t *testing.T) {
	checkCost(t, 100, 3, 24024000, api.OK)
	checkFinish(t, api.MaxTag, 1, 1, 0, api.ErrRange)
	checkLeast(t, []api.Tag{{Flow: 0, Weight: 1, Start: 50}, {Flow: 1, Weight: 1, Start: 20}, {Flow: 2, Weight: 1, Start: 20}}, 1)
}

// TestCost checks Cost in P12.1 for all lengths and weights.
func TestCost(t *testing.T) {
	for weight := 1; weight <= heaviest; weight++ {
		for length := 1; length <= longest; length++ {
			checkCost(t, length, weight, int64(length)*perByte[weight], api.OK)
		}
	}
}

// TestCostErrors checks ErrInvalid of Cost in P12.1, for each of the numbers alone and for both.
func TestCostErrors(t *testing.T) {
	for _, length := range badLengths {
		for weight := 1; weight <= heaviest; weight++ {
			checkCost(t, length, weight, 0, api.ErrInvalid)
		}
		for _, weight := range badWeights {
			checkCost(t, length, weight, 0, api.ErrInvalid)
		}
	}
	for _, weight := range badWeights {
		for length := 1; length <= longest; length++ {
			checkCost(t, length, weight, 0, api.ErrInvalid)
		}
	}
}

// TestFinish checks Finish in P12.1, with all lengths and weights from the first start tags to the last ones for which the sum is a tag.
func TestFinish(t *testing.T) {
	source := rand.New(rand.NewPCG(121, 122))
	for weight := 1; weight <= heaviest; weight++ {
		for length := 1; length <= longest; length++ {
			cost := int64(length) * perByte[weight]
			last := lastStart - cost
			for _, start := range []int64{0, 1, 5, cost, source.Int64N(last), last - 1, last} {
				checkFinish(t, start, length, weight, start+cost, api.OK)
			}
			for _, start := range []int64{last + 1, last + 2, last + 1 + source.Int64N(cost), lastStart - 1, lastStart} {
				checkFinish(t, start, length, weight, 0, api.ErrRange)
			}
		}
	}
}

// TestFinishErrors checks ErrInvalid of Finish in P12.1, for each of the numbers alone and with others, also where the sum would be too great.
func TestFinishErrors(t *testing.T) {
	lengths := slices.Concat(goodLengths, badLengths)
	for _, start := range badStarts {
		for _, length := range lengths {
			for weight := 1; weight <= heaviest; weight++ {
				checkFinish(t, start, length, weight, 0, api.ErrInvalid)
			}
			for _, weight := range badWeights {
				checkFinish(t, start, length, weight, 0, api.ErrInvalid)
			}
		}
	}
	for _, start := range []int64{0, 1, 720720, lastStart - 1, lastStart} {
		for _, length := range badLengths {
			for weight := 1; weight <= heaviest; weight++ {
				checkFinish(t, start, length, weight, 0, api.ErrInvalid)
			}
		}
		for _, weight := range badWeights {
			for _, length := range lengths {
				checkFinish(t, start, length, weight, 0, api.ErrInvalid)
			}
		}
	}
}

// TestFinishChain checks that a flow of packets gets the tags that the sums of their lengths require, up to the first one that is too great.
func TestFinishChain(t *testing.T) {
	for weight := 1; weight <= heaviest; weight++ {
		for _, length := range []int{longest, 3001} {
			start, sent := int64(0), int64(0)
			for {
				finish, err := tags.Finish(start, length, weight)
				if err != api.OK {
					checkFinish(t, start, length, weight, 0, api.ErrRange)
					break
				}
				start, sent = finish, sent+int64(length)
			}
			if start != sent*perByte[weight] || lastStart-start >= int64(length)*perByte[weight] {
				t.Errorf("weight %d: the last tag of %d bytes in packets of %d is %d", weight, sent, length, start)
			}
		}
	}
}

// TestNormalized checks P12.4 but for its error, and that it is the cost of a packet for what may be its length.
func TestNormalized(t *testing.T) {
	source := rand.New(rand.NewPCG(123, 124))
	for weight := 1; weight <= heaviest; weight++ {
		for bytes := range int64(longest + 2) {
			checkNormalized(t, bytes, weight, bytes*perByte[weight], api.OK)
			checkNormalized(t, -bytes, weight, -bytes*perByte[weight], api.OK)
		}
		for _, bytes := range []int64{1 << 16, 1<<31 - 1, 1 << 31, 1<<31 + 1, 1 << 32, 1<<32 + 1, 1<<39 + 7, mostBytes - 2, mostBytes - 1, mostBytes} {
			checkNormalized(t, bytes, weight, wantNormalized(bytes, weight), api.OK)
			checkNormalized(t, -bytes, weight, -wantNormalized(bytes, weight), api.OK)
		}
		for range 2000 {
			bytes := source.Int64N(mostBytes >> source.IntN(40))
			checkNormalized(t, bytes, weight, wantNormalized(bytes, weight), api.OK)
			checkNormalized(t, -bytes, weight, wantNormalized(-bytes, weight), api.OK)
		}
	}
	// The ends, written out.
	checkNormalized(t, mostBytes, 1, 792440020370718720, api.OK)
	checkNormalized(t, -mostBytes, 1, -792440020370718720, api.OK)
	checkNormalized(t, mostBytes, 16, 49527501273169920, api.OK)
	checkNormalized(t, -mostBytes, 13, -60956924643901440, api.OK)
}

// TestNormalizedErrors checks ErrInvalid in P12.4, for each of the numbers alone and for both.
func TestNormalizedErrors(t *testing.T) {
	for _, bytes := range badBytes {
		for weight := 1; weight <= heaviest; weight++ {
			checkNormalized(t, bytes, weight, 0, api.ErrInvalid)
		}
		for _, weight := range badWeights {
			checkNormalized(t, bytes, weight, 0, api.ErrInvalid)
		}
	}
	for _, weight := range badWeights {
		for _, bytes := range []int64{0, 1, -1, 100, -100, 720720, mostBytes, -mostBytes} {
			checkNormalized(t, bytes, weight, 0, api.ErrInvalid)
		}
	}
}

// TestValid checks Valid in P12.2: each permitted number of a tag alone and in lists, and lists that are not valid for one reason.
func TestValid(t *testing.T) {
	valid := [][]api.Tag{nil, {}, full(0), full(lastStart), list(0, lastStart, 5, 5)}
	for flow := range lastFlow + 1 {
		for weight := 1; weight <= heaviest; weight++ {
			for _, start := range []int64{0, 1, 1 << 31, 1 << 32, lastStart - 1, lastStart} {
				valid = append(valid, []api.Tag{{Flow: flow, Weight: weight, Start: start}})
			}
		}
		valid = append(valid, full(1)[flow:], full(2)[:flow], slices.Delete(full(3), flow, flow+1))
		for other := range flow {
			valid = append(valid, []api.Tag{{Flow: other, Weight: 16}, {Flow: flow, Weight: 1}})
		}
	}
	for _, l := range valid {
		if !tags.Valid(l) {
			t.Errorf("Valid(%v) = false", l)
		}
	}
	for _, l := range invalid() {
		if tags.Valid(l) {
			t.Errorf("Valid(%v) = true", l)
		}
	}
}

// TestShortLists checks the functions of lists for all lists of up to three tags whose numbers lie around the ends of what is permitted.
func TestShortLists(t *testing.T) {
	var all []api.Tag
	for _, flow := range []int{-1, 0, 1, 31, 32} {
		for _, weight := range []int{0, 1, 16, 17} {
			for _, start := range []int64{-1, 0, lastStart, lastStart + 1} {
				all = append(all, api.Tag{Flow: flow, Weight: weight, Start: start})
			}
		}
	}
	for _, a := range all {
		checkList(t, []api.Tag{a}, -1, 0, 1)
		for _, b := range all {
			checkList(t, []api.Tag{a, b}, -1, 0, 1)
			for _, c := range all {
				checkList(t, []api.Tag{a, b, c}, 1)
			}
		}
	}
}

// TestFlows checks the order of flows for all lists of up to five of the same six flows.
func TestFlows(t *testing.T) {
	flows := []int{0, 1, 2, 15, 30, 31}
	var grow func(l []api.Tag)
	grow = func(l []api.Tag) {
		checkList(t, l, 0, 11)
		if len(l) == 5 {
			return
		}
		for _, flow := range flows {
			grow(append(slices.Clone(l), api.Tag{Flow: flow, Weight: 1, Start: int64(13 - len(l))}))
		}
	}
	grow(nil)
}

// TestLeast checks Least in P12.2: all lists of five of four start tags, and in full lists each pair of places.
func TestLeast(t *testing.T) {
	checkLeast(t, nil, -1)
	checkLeast(t, []api.Tag{}, -1)
	starts := []int64{0, 1, 720720, lastStart}
	for n := range 4 * 4 * 4 * 4 * 4 {
		l := list(starts[n%4], starts[n/4%4], starts[n/16%4], starts[n/64%4], starts[n/256])
		for i := range l {
			checkLeast(t, l[:i+1], wantLeast(l[:i+1]))
		}
	}
	for _, start := range []int64{1, 720720, 1 << 32, lastStart} {
		checkLeast(t, full(start), 0)
		for i := range lastFlow + 1 {
			one := with(full(start), i, func(tag *api.Tag) { tag.Start-- })
			checkLeast(t, one, i)
			for k := range lastFlow + 1 {
				checkLeast(t, with(one, k, func(tag *api.Tag) { tag.Start = start - 1 }), min(i, k))
				if start > 1 {
					checkLeast(t, with(one, k, func(tag *api.Tag) { tag.Start = start - 2 }), k)
				}
			}
		}
	}
	for _, l := range invalid() {
		checkLeast(t, l, -1)
	}
}

// TestRebase checks P12.3 but for ErrInvalid: all numbers from 0 to the least start tag and a few more than it, and the numbers around the ends.
func TestRebase(t *testing.T) {
	for _, l := range [][]api.Tag{list(0), list(9), list(30, 20, 20), list(5, 7, 6, lastStart), list(lastStart), list(lastStart, 40), full(12)} {
		least := l[wantLeast(l)].Start
		for by := range min(least, 50) + 1 {
			checkList(t, l, by)
		}
		checkList(t, l, least)
		for _, by := range []int64{least + 1, least + 2, least + 720720, lastStart + 1, lastStart + 2, 1 << 62, math.MaxInt64 - 1, math.MaxInt64} {
			checkRebase(t, l, by, nil, api.ErrRange)
		}
	}
	checkRebase(t, list(50, 20, 20), 20, list(30, 0, 0), api.OK)
	checkRebase(t, list(50, 20, 20), 21, nil, api.ErrRange)
	checkRebase(t, list(lastStart, lastStart), lastStart, list(0, 0), api.OK)
	for _, by := range []int64{0, 1, lastStart, lastStart + 1, math.MaxInt64} {
		checkRebase(t, nil, by, nil, api.OK)
		checkRebase(t, []api.Tag{}, by, nil, api.OK)
	}
	for i := range lastFlow + 1 {
		l := with(full(100), i, func(tag *api.Tag) { tag.Start = 99 })
		checkRebase(t, l, 99, with(full(1), i, func(tag *api.Tag) { tag.Start = 0 }), api.OK)
		checkRebase(t, l, 100, nil, api.ErrRange)
	}
}

// TestRebaseErrors checks ErrInvalid in P12.3, also where a start tag would be negative.
func TestRebaseErrors(t *testing.T) {
	negative := []int64{-1, -2, -720720, -lastStart, -1 << 62, math.MinInt64, math.MinInt64 + 1}
	for _, by := range negative {
		for _, l := range [][]api.Tag{nil, {}, list(0), list(1, 2, 3), list(lastStart), full(0), full(lastStart)} {
			checkRebase(t, l, by, nil, api.ErrInvalid)
		}
	}
	for _, l := range invalid() {
		for _, by := range append([]int64{0, 1, 5, 100, lastStart, lastStart + 1, math.MaxInt64}, negative...) {
			checkRebase(t, l, by, nil, api.ErrInvalid)
		}
	}
}

// randomNumber returns a number from 0 to most, mostly a small one.
func randomNumber(source *rand.Rand, most int64) int64 {
	return source.Int64N(most>>source.IntN(41) + 1)
}

// randomList returns a valid list.
func randomList(source *rand.Rand) []api.Tag {
	var out []api.Tag
	share := 1 + source.IntN(8)
	base := randomNumber(source, lastStart)
	for flow := range lastFlow + 1 {
		if source.IntN(8) < share {
			out = append(out, api.Tag{Flow: flow, Weight: 1 + source.IntN(heaviest), Start: base + randomNumber(source, lastStart-base)})
		}
	}
	return out
}

// TestRandom compares the functions of lists with their second wordings: valid lists, and the same with one number changed.
func TestRandom(t *testing.T) {
	source := rand.New(rand.NewPCG(125, 126))
	for range 3000 {
		l := randomList(source)
		by := randomNumber(source, lastStart)
		if len(l) > 0 {
			by = max(0, l[wantLeast(l)].Start+int64(source.IntN(3)-1))
		}
		checkList(t, l, by, by/2, source.Int64N(lastStart), source.Int64())
		if len(l) == 0 {
			continue
		}
		checkList(t, with(l, source.IntN(len(l)), func(tag *api.Tag) {
			switch source.IntN(3) {
			case 0:
				tag.Flow = source.IntN(36) - 2
			case 1:
				tag.Weight = source.IntN(20) - 1
			default:
				tag.Start = badStarts[source.IntN(len(badStarts))]
			}
		}), by, -by-1)
	}
}

// TestRebaseKeepsOrder checks the chapter's first consequence: neither the order of tags nor their differences change.
func TestRebaseKeepsOrder(t *testing.T) {
	source := rand.New(rand.NewPCG(127, 128))
	for range 2000 {
		l := randomList(source)
		if len(l) == 0 {
			continue
		}
		least := tags.Least(l)
		for _, by := range []int64{0, l[least].Start / 2, l[least].Start} {
			got, err := tags.Rebase(l, by)
			if err != api.OK || len(got) != len(l) || !tags.Valid(got) || tags.Least(got) != least {
				t.Fatalf("Rebase(%v, %d) = %v, %d", l, by, got, err)
			}
			for i := range l {
				for k := range i {
					if got[i].Start-got[k].Start != l[i].Start-l[k].Start {
						t.Fatalf("Rebase(%v, %d) = %v: the tags %d and %d differ by another number", l, by, got, k, i)
					}
				}
			}
		}
	}
}

// TestCostsAddUp checks the chapter's second consequence: the costs of packets add up to the normalized sum of their lengths.
func TestCostsAddUp(t *testing.T) {
	source := rand.New(rand.NewPCG(129, 130))
	for weight := 1; weight <= heaviest; weight++ {
		bytes, total := int64(0), int64(0)
		for range 3000 {
			length := 1 + source.IntN(longest)
			cost, err := tags.Cost(length, weight)
			if err != api.OK {
				t.Fatalf("Cost(%d, %d) = %d, %d", length, weight, cost, err)
			}
			bytes += int64(length)
			total += cost
			checkNormalized(t, bytes, weight, total, api.OK)
			checkNormalized(t, -bytes, weight, -total, api.OK)
		}
	}
}

// TestWeights checks that Cost, Finish and Normalized agree on the weights that Valid permits.
func TestWeights(t *testing.T) {
	for _, weight := range append([]int{1, 2, 3, 4, 5, 6, 7, 8, 9, 10, 11, 12, 13, 14, 15, 16}, badWeights...) {
		want := api.OK
		if !tags.Valid([]api.Tag{{Flow: 0, Weight: weight}}) {
			want = api.ErrInvalid
		}
		_, cost := tags.Cost(1, weight)
		_, finish := tags.Finish(0, 1, weight)
		_, normalized := tags.Normalized(0, weight)
		if cost != want || finish != want || normalized != want {
			t.Errorf("weight %d: the errors are %d, %d and %d, want %d", weight, cost, finish, normalized, want)
		}
	}
}

// TestArguments checks that no function changes its list, nor what lies behind its end, and that the result of Rebase shares no memory with the list or with another result.
func TestArguments(t *testing.T) {
	junk := api.Tag{Flow: 77, Weight: 78, Start: 79}
	for _, l := range [][]api.Tag{{}, list(5), list(9, 5, 7), full(50), list(3, -1, 2), append(list(4, 5), list(6)...)} {
		for _, by := range []int64{0, 3, 5, 6} {
			behind := append(slices.Clone(l), junk, junk, junk)
			given := behind[:len(l)]
			first, err := tags.Rebase(given, by)
			second, _ := tags.Rebase(given, by)
			tags.Valid(given)
			tags.Least(given)
			if !slices.Equal(given, l) || !slices.Equal(behind[len(l):], []api.Tag{junk, junk, junk}) {
				t.Fatalf("%v has become %v", l, behind)
			}
			want := slices.Clone(second)
			spoil(first, junk)
			if !slices.Equal(given, l) || !slices.Equal(second, want) || behind[len(l)] != junk {
				t.Fatalf("Rebase(%v, %d): the result shares memory with the list or another result", l, by)
			}
			spoil(given, junk)
			if !slices.Equal(second, want) {
				t.Fatalf("Rebase(%v, %d), %d: the result has become %v", l, by, err, second)
			}
			checkRebase(t, l, by, want, err)
		}
	}
}

// spoil overwrites a list and what may lie behind its end.
func spoil(l []api.Tag, junk api.Tag) {
	for i := range l {
		l[i] = api.Tag{Flow: 87, Weight: 88, Start: 89}
	}
	_ = append(l, junk)
	_ = append(l[:0], junk)
}

// TestRepeated checks P2: the results depend only on the arguments, in whatever order the calls are made.
func TestRepeated(t *testing.T) {
	type call struct {
		start          int64
		length, weight int
		l              []api.Tag
	}
	run := func(c call) (out []any) {
		cost, err1 := tags.Cost(c.length, c.weight)
		finish, err2 := tags.Finish(c.start, c.length, c.weight)
		normalized, err3 := tags.Normalized(c.start, c.weight)
		rebased, err4 := tags.Rebase(c.l, c.start)
		return append(out, cost, err1, finish, err2, normalized, err3, rebased, err4, tags.Valid(c.l), tags.Least(c.l))
	}
	source := rand.New(rand.NewPCG(131, 132))
	var calls []call
	var want [][]any
	bad := invalid()
	for i := range 500 {
		c := call{randomNumber(source, lastStart), source.IntN(longest + 2), source.IntN(heaviest + 2), randomList(source)}
		if i%5 == 0 {
			c.l = bad[source.IntN(len(bad))]
		}
		calls = append(calls, c)
		want = append(want, run(c))
	}
	for _, i := range source.Perm(len(calls)) {
		if got := run(calls[i]); !reflect.DeepEqual(got, want[i]) {
			t.Errorf("%+v: %v, and before %v", calls[i], got, want[i])
		}
	}
}
