package fairness_test

import (
	"math"
	"math/big"
	"math/rand/v2"
	"reflect"
	"slices"
	"testing"

	"airshare/api"
	"airshare/fairness"
)

// The numbers of the document, written out.
const (
	scale     = 720720
	heaviest  = 16
	longest   = 4096
	flowCount = 32
	mostBytes = 2147483648
)

// perByte is what a byte counts for a flow with each weight; there is none with the weight 0.
var perByte = [heaviest + 1]int64{0, 720720, 360360, 240240, 180180, 144144, 120120, 102960, 90090, 80080, 72072, 65520, 60060, 55440, 51480, 48048, 45045}

// far are numbers that are far from all that is permitted in a sample; some of their lower bits are those of 1.
var far = []int{-2, -16, -32, 1<<31 + 1, 1 << 32, 1<<32 + 1, 1<<40 + 1, 1<<56 + 1, -1 << 32, 1 - 1<<32, math.MaxInt, math.MaxInt - 1, math.MinInt, math.MinInt + 1}

// The numbers that are not permitted, in each of their places.
var (
	badWeights = append([]int{0, -1, 17, 18, 32, 1 << 16, 1<<16 + 1}, far...)
	badBytes   = append([]int{-1, -scale, -mostBytes, mostBytes + 1, mostBytes + 2, 2 * mostBytes, 1 << 40}, far...)
	badMosts   = append([]int{-1, -100, -longest, 4097, 4098, 8192, 1 << 16, 1<<16 + 1}, far...)
)

// Numbers that are permitted, with both ends.
var (
	goodBytes = []int64{0, 1, 2, 100, 1023, 1024, 1025, 4096, 720720, 1 << 20, 1<<30 + 7, mostBytes - 2, mostBytes - 1, mostBytes}
	goodMosts = []int{0, 1, 2, 100, 1500, 2047, 2048, 4095, 4096}
)

// sample returns a sample; it keeps long lists short.
func sample(weight int, bytes int64, most int) api.Sample {
	return api.Sample{Weight: weight, Bytes: bytes, Most: most}
}

// invalid returns samples that are not valid: for each bad number the ones with that number alone, and for each two places the ones with bad numbers in both.
func invalid() []api.Sample {
	var out []api.Sample
	for i, bad := range badWeights {
		for _, bytes := range goodBytes {
			out = append(out, sample(bad, bytes, goodMosts[i%len(goodMosts)]))
		}
		out = append(out, sample(bad, int64(badBytes[i%len(badBytes)]), 100), sample(bad, 100, badMosts[i%len(badMosts)]))
	}
	for i, bad := range badBytes {
		for weight := 1; weight <= heaviest; weight++ {
			out = append(out, sample(weight, int64(bad), goodMosts[weight%len(goodMosts)]))
		}
		out = append(out, sample(1, int64(bad), badMosts[i%len(badMosts)]))
	}
	for _, bad := range badMosts {
		for weight := 1; weight <= heaviest; weight++ {
			out = append(out, sample(weight, goodBytes[weight%len(goodBytes)], bad))
		}
	}
	return append(out, api.Sample{})
}

// isValid is a second wording of what a valid sample is.
func isValid(s api.Sample) bool {
	switch {
	case s.Weight <= 0, s.Bytes < 0, s.Most < 0:
		return false
	case s.Weight > 16, s.Bytes > 1<<31, s.Most > 4096:
		return false
	}
	return true
}

// inUnits returns bytes * Scale / weight.
func inUnits(bytes int64, weight int) *big.Int {
	product := new(big.Int).Mul(big.NewInt(bytes), big.NewInt(scale))
	quotient, rest := product.QuoRem(product, big.NewInt(int64(weight)), new(big.Int))
	if rest.Sign() != 0 {
		panic("not exact")
	}
	return quotient
}

// wantGap returns what Gap has to return for valid samples.
func wantGap(a, b api.Sample) int64 {
	difference := new(big.Int).Sub(inUnits(a.Bytes, a.Weight), inUnits(b.Bytes, b.Weight))
	return difference.Abs(difference).Int64()
}

// wantBound returns what Bound has to return for valid samples.
func wantBound(a, b api.Sample) int64 {
	return new(big.Int).Add(inUnits(int64(a.Most), a.Weight), inUnits(int64(b.Most), b.Weight)).Int64()
}

// wantListError returns the error of a function that needs at least least samples.
func wantListError(l []api.Sample, least int) api.Errno {
	switch {
	case len(l) > flowCount, slices.ContainsFunc(l, func(s api.Sample) bool { return !isValid(s) }):
		return api.ErrInvalid
	case len(l) < least:
		return api.ErrEmpty
	}
	return api.OK
}

// pair is a pair of indices, with the gap minus the bound of their samples.
type pair struct {
	i, j int
	over int64
}

// wantWorst returns what Worst has to return: the first pair, when all are sorted by the gap minus the bound, then by the indices.
func wantWorst(l []api.Sample) (int, int, api.Errno) {
	if err := wantListError(l, 2); err != api.OK {
		return 0, 0, err
	}
	var pairs []pair
	for j := range l {
		for i := range j {
			pairs = append(pairs, pair{i, j, wantGap(l[i], l[j]) - wantBound(l[i], l[j])})
		}
	}
	best := slices.MinFunc(pairs, func(p, q pair) int {
		return slices.Compare([]int64{-p.over, int64(p.i), int64(p.j)}, []int64{-q.over, int64(q.i), int64(q.j)})
	})
	return best.i, best.j, api.OK
}

// number returns x as a number of 128 bits.
func number(x *big.Int) api.Wide {
	if x.Sign() < 0 || x.BitLen() > 128 {
		panic("does not fit")
	}
	return api.Wide{Hi: new(big.Int).Rsh(x, 64).Uint64(), Lo: new(big.Int).And(x, new(big.Int).SetUint64(math.MaxUint64)).Uint64()}
}

// parts returns the x of each sample in P14.3.
func parts(l []api.Sample) []*big.Int {
	var out []*big.Int
	for _, s := range l {
		out = append(out, new(big.Int).Div(inUnits(s.Bytes, s.Weight), big.NewInt(1024)))
	}
	return out
}

// wantJain returns what Jain has to return.
func wantJain(l []api.Sample) (api.Wide, api.Wide, api.Errno) {
	if err := wantListError(l, 1); err != api.OK {
		return api.Wide{}, api.Wide{}, err
	}
	sum, squares := new(big.Int), new(big.Int)
	for _, x := range parts(l) {
		sum.Add(sum, x)
		squares.Add(squares, new(big.Int).Mul(x, x))
	}
	return number(sum.Mul(sum, sum)), number(squares.Mul(squares, big.NewInt(int64(len(l))))), api.OK
}

func checkGap(t *testing.T, a, b api.Sample, want int64, wantErr api.Errno) {
	t.Helper()
	if got, err := fairness.Gap(a, b); got != want || err != wantErr {
		t.Errorf("Gap(%v, %v) = %d, %d, want %d, %d", a, b, got, err, want, wantErr)
	}
}

func checkBound(t *testing.T, a, b api.Sample, want int64, wantErr api.Errno) {
	t.Helper()
	if got, err := fairness.Bound(a, b); got != want || err != wantErr {
		t.Errorf("Bound(%v, %v) = %d, %d, want %d, %d", a, b, got, err, want, wantErr)
	}
}

func checkFair(t *testing.T, a, b api.Sample, want bool) {
	t.Helper()
	if got := fairness.Fair(a, b); got != want {
		t.Errorf("Fair(%v, %v) = %t, want %t", a, b, got, want)
	}
}

// checkPair checks the functions of two samples against their second wordings.
func checkPair(t *testing.T, a, b api.Sample) {
	t.Helper()
	if !isValid(a) || !isValid(b) {
		checkGap(t, a, b, 0, api.ErrInvalid)
		checkBound(t, a, b, 0, api.ErrInvalid)
		checkFair(t, a, b, false)
		return
	}
	gap, bound := wantGap(a, b), wantBound(a, b)
	checkGap(t, a, b, gap, api.OK)
	checkBound(t, a, b, bound, api.OK)
	checkFair(t, a, b, gap <= bound)
}

func checkWorst(t *testing.T, l []api.Sample, wantI, wantJ int, wantErr api.Errno) {
	t.Helper()
	if i, j, err := fairness.Worst(l); i != wantI || j != wantJ || err != wantErr {
		t.Errorf("Worst(%v) = %d, %d, %d, want %d, %d, %d", l, i, j, err, wantI, wantJ, wantErr)
	}
}

func checkJain(t *testing.T, l []api.Sample, wantNum, wantDen api.Wide, wantErr api.Errno) {
	t.Helper()
	if num, den, err := fairness.Jain(l); num != wantNum || den != wantDen || err != wantErr {
		t.Errorf("Jain(%v) = %v, %v, %d, want %v, %v, %d", l, num, den, err, wantNum, wantDen, wantErr)
	}
}

// checkList checks the functions of lists against their second wordings.
func checkList(t *testing.T, l []api.Sample) {
	t.Helper()
	i, j, err := wantWorst(l)
	checkWorst(t, l, i, j, err)
	num, den, err := wantJain(l)
	checkJain(t, l, num, den, err)
}

// TestExamples checks the chapter's examples.
func TestExamples(t *testing.T) {
	checkGap(t, sample(1, 100, 100), sample(2, 200, 100), 0, api.OK)
	checkGap(t, sample(1, 300, 100), sample(2, 200, 100), 200*scale, api.OK)
	checkBound(t, sample(1, 300, 100), sample(2, 200, 100), 150*scale, api.OK)
	checkFair(t, sample(1, 300, 100), sample(2, 200, 100), false)
	checkJain(t, []api.Sample{sample(1, 1024, 0), sample(1, 0, 0)}, api.Wide{Lo: 720720 * 720720}, api.Wide{Lo: 2 * 720720 * 720720}, api.OK)
}

// TestValid checks Valid in P14.1: every weight and every greatest length, the ends of each number, and samples that are not valid.
func TestValid(t *testing.T) {
	var valid []api.Sample
	for weight := 1; weight <= heaviest; weight++ {
		for _, bytes := range goodBytes {
			for _, most := range goodMosts {
				valid = append(valid, sample(weight, bytes, most))
			}
		}
	}
	for most := range longest + 1 {
		valid = append(valid, sample(1+most%heaviest, 0, most))
	}
	for _, s := range valid {
		if !fairness.Valid(s) {
			t.Errorf("Valid(%v) = false", s)
		}
	}
	for _, s := range invalid() {
		if fairness.Valid(s) {
			t.Errorf("Valid(%v) = true", s)
		}
	}
}

// TestPairs checks the functions of two samples for all pairs of samples whose numbers are permitted ones.
func TestPairs(t *testing.T) {
	var all []api.Sample
	for weight := 1; weight <= heaviest; weight++ {
		for i, bytes := range goodBytes {
			all = append(all, sample(weight, bytes, goodMosts[(weight+i)%len(goodMosts)]), sample(weight, bytes, goodMosts[i%len(goodMosts)]))
		}
	}
	for _, a := range all {
		for _, b := range all {
			checkPair(t, a, b)
		}
	}
}

// TestGap checks Gap in P14.1 with numbers that are written out.
func TestGap(t *testing.T) {
	for a := 1; a <= heaviest; a++ {
		for b := 1; b <= heaviest; b++ {
			checkGap(t, sample(a, int64(a), 0), sample(b, int64(b), 0), 0, api.OK)
			checkGap(t, sample(a, 1, 0), sample(b, 0, 0), perByte[a], api.OK)
			checkGap(t, sample(a, 0, 0), sample(b, 1, 0), perByte[b], api.OK)
			checkGap(t, sample(a, 1, 0), sample(b, 1, 0), max(perByte[a]-perByte[b], perByte[b]-perByte[a]), api.OK)
			// The greatest lengths do not count.
			checkGap(t, sample(a, 1, 4096), sample(b, 0, 1), perByte[a], api.OK)
		}
	}
	checkGap(t, sample(1, mostBytes, 4096), sample(1, 0, 0), 1547734414786560, api.OK)
	checkGap(t, sample(1, 0, 0), sample(16, mostBytes, 0), 96733400924160, api.OK)
	checkGap(t, sample(16, mostBytes, 0), sample(1, mostBytes, 0), 1451001013862400, api.OK)
	checkGap(t, sample(1, mostBytes, 0), sample(1, mostBytes-1, 0), 720720, api.OK)
}

// TestBound checks Bound in P14.1: all greatest lengths with all weights in both places, and numbers that are written out.
func TestBound(t *testing.T) {
	for weight := 1; weight <= heaviest; weight++ {
		for most := range longest + 1 {
			other := 1 + (weight+most)%heaviest
			want := int64(most)*perByte[weight] + 7*perByte[other]
			checkBound(t, sample(weight, 0, most), sample(other, 0, 7), want, api.OK)
			checkBound(t, sample(other, 0, 7), sample(weight, 0, most), want, api.OK)
			// The bytes do not count.
			checkBound(t, sample(weight, mostBytes, most), sample(other, 5, 7), want, api.OK)
		}
	}
	checkBound(t, sample(1, 0, 0), sample(16, 0, 0), 0, api.OK)
	checkBound(t, sample(1, 0, 4096), sample(1, 0, 4096), 5904138240, api.OK)
	checkBound(t, sample(16, 0, 4096), sample(3, 0, 1), 184504320+240240, api.OK)
}

// TestFair checks Fair in P14.1 around gaps that are as great as the bound: for equal weights, where one byte makes the difference, and for all small samples of all pairs of weights.
func TestFair(t *testing.T) {
	for weight := 1; weight <= heaviest; weight++ {
		for _, most := range goodMosts {
			for _, least := range []int64{0, 1, 12345, mostBytes - 8193} {
				a, b := sample(weight, least, most), sample(weight, least+int64(most)+4096, 4096)
				checkFair(t, a, b, true)
				checkFair(t, b, a, true)
				b.Bytes++
				checkFair(t, a, b, false)
				checkFair(t, b, a, false)
			}
		}
	}
	for a := 1; a <= heaviest; a++ {
		for b := 1; b <= heaviest; b++ {
			for n := range 13 * 13 * 4 * 4 {
				s, r := sample(a, int64(n%13), n/169%4), sample(b, int64(n/13%13), n/676)
				gap := s.Bytes*perByte[a] - r.Bytes*perByte[b]
				bound := int64(s.Most)*perByte[a] + int64(r.Most)*perByte[b]
				checkFair(t, s, r, -bound <= gap && gap <= bound)
			}
		}
	}
}

// TestFairClose checks Fair where the gap passes the bound by as little as it can for weights that differ: a byte of the weight 15 counts 16 * 3003, one of the weight 16 counts 15 * 3003, and n more bytes of both count n * 3003.
func TestFairClose(t *testing.T) {
	for _, most := range []int64{0, 1, 100, longest} {
		// The bound is n * 3003.
		n := 31 * most
		for _, base := range []int64{n + 1, 1 << 20, (mostBytes - n - 1) / 16} {
			for _, sign := range []int64{1, -1} {
				a, b := sample(15, 15*base+sign*n, int(most)), sample(16, 16*base+sign*n, int(most))
				checkGap(t, a, b, 3003*n, api.OK)
				checkBound(t, a, b, 3003*n, api.OK)
				checkFair(t, a, b, true)
				checkFair(t, b, a, true)
				a.Bytes += sign
				b.Bytes += sign
				checkGap(t, a, b, 3003*n+3003, api.OK)
				checkFair(t, a, b, false)
				checkFair(t, b, a, false)
			}
		}
	}
}

// TestPairErrors checks ErrInvalid in P14.1 and that Fair is false then: bad samples beside good ones, in both places, and beside other bad ones.
func TestPairErrors(t *testing.T) {
	good := []api.Sample{sample(1, 0, 0), sample(1, 100, 100), sample(16, mostBytes, 4096), sample(7, 1, 4096)}
	bad := invalid()
	for i, s := range bad {
		for _, g := range good {
			checkPair(t, s, g)
			checkPair(t, g, s)
		}
		checkPair(t, s, s)
		checkPair(t, s, bad[(i*31+7)%len(bad)])
	}
}

// list returns samples with these numbers of bytes and the weight 1.
func list(bytes ...int64) []api.Sample {
	var out []api.Sample
	for _, n := range bytes {
		out = append(out, sample(1, n, 10))
	}
	return out
}

// full returns n samples with the same service, of different weights.
func full(n int, service int64) []api.Sample {
	var out []api.Sample
	for i := range n {
		weight := 1 + i%heaviest
		out = append(out, sample(weight, service*int64(weight), 10*weight))
	}
	return out
}

// with returns a copy of l in which one sample has been changed.
func with(l []api.Sample, i int, change func(s *api.Sample)) []api.Sample {
	out := slices.Clone(l)
	change(&out[i])
	return out
}

// TestWorst checks P14.2 but for its errors with indices that are written out.
func TestWorst(t *testing.T) {
	checkWorst(t, list(5, 5), 0, 1, api.OK)
	checkWorst(t, list(5, 5, 5, 5), 0, 1, api.OK)
	checkWorst(t, list(5, 9, 5, 9), 0, 1, api.OK)
	checkWorst(t, list(9, 9, 5, 5), 0, 2, api.OK)
	checkWorst(t, list(7, 9, 5, 9, 5), 1, 2, api.OK)
	checkWorst(t, list(7, 5, 9, 5), 1, 2, api.OK)
	checkWorst(t, list(7, 7, 5, 9), 2, 3, api.OK)
	checkWorst(t, list(1, 7, 8, 10), 0, 3, api.OK)
	checkWorst(t, list(10, 7, 8, 1), 0, 3, api.OK)
	checkWorst(t, list(mostBytes, 0, mostBytes), 0, 1, api.OK)
	// The greatest gap has a bound that is greater still.
	checkWorst(t, []api.Sample{sample(1, 0, 0), sample(1, 50, 45), sample(1, 20, 0)}, 0, 2, api.OK)
	// All gaps are 0, so that the least bound decides.
	checkWorst(t, []api.Sample{sample(1, 6, 9), sample(2, 12, 4), sample(3, 18, 9), sample(6, 36, 11)}, 1, 3, api.OK)
	// The pairs are equally bad, with different gaps.
	checkWorst(t, []api.Sample{sample(1, 0, 5), sample(1, 10, 5), sample(1, 20, 15), sample(1, 10, 5)}, 0, 1, api.OK)
	checkWorst(t, []api.Sample{sample(1, 10, 9), sample(1, 10, 5), sample(1, 20, 5), sample(1, 30, 15)}, 1, 2, api.OK)
}

// TestWorstPlaces checks Worst where one or two samples stand out, at each place of lists of each length.
func TestWorstPlaces(t *testing.T) {
	for n := 2; n <= flowCount; n++ {
		l := full(n, 1000)
		checkWorst(t, l, 0, 1, api.OK)
		for j := range n {
			more := with(l, j, func(s *api.Sample) { s.Bytes += 100 * int64(s.Weight) })
			less := with(l, j, func(s *api.Sample) { s.Most -= 5 * s.Weight })
			checkWorst(t, more, 0, max(j, 1), api.OK)
			checkWorst(t, less, 0, max(j, 1), api.OK)
			for i := range j {
				checkWorst(t, with(more, i, func(s *api.Sample) { s.Bytes -= 100 * int64(s.Weight) }), i, j, api.OK)
				checkWorst(t, with(less, i, func(s *api.Sample) { s.Most -= 3 * s.Weight }), i, j, api.OK)
			}
		}
	}
}

// TestShortLists checks the functions of lists for all lists of up to four of a few samples, of which two are not valid.
func TestShortLists(t *testing.T) {
	all := []api.Sample{sample(1, 0, 0), sample(1, 5, 0), sample(1, 5, 5), sample(2, 10, 1), sample(2, 20, 10), sample(3, 60, 1), sample(16, mostBytes, 0), sample(16, 7, 4096), sample(17, 1, 1), {}}
	var grow func(l []api.Sample)
	grow = func(l []api.Sample) {
		checkList(t, l)
		if len(l) == 4 {
			return
		}
		for _, s := range all {
			grow(append(slices.Clone(l), s))
		}
	}
	grow(nil)
}

// TestListErrors checks the errors of P14.2 and P14.3 and their order.
func TestListErrors(t *testing.T) {
	for _, l := range [][]api.Sample{nil, {}} {
		checkWorst(t, l, 0, 0, api.ErrEmpty)
		checkJain(t, l, api.Wide{}, api.Wide{}, api.ErrEmpty)
	}
	for _, s := range []api.Sample{sample(1, 0, 0), sample(16, mostBytes, 4096), sample(5, 100, 100)} {
		checkWorst(t, []api.Sample{s}, 0, 0, api.ErrEmpty)
	}
	for _, n := range []int{33, 34, 64, 65, 256, 257, 1 << 16} {
		l := full(n, 1000)
		checkWorst(t, l, 0, 0, api.ErrInvalid)
		checkJain(t, l, api.Wide{}, api.Wide{}, api.ErrInvalid)
		l[n/2].Weight = 0
		checkWorst(t, l, 0, 0, api.ErrInvalid)
		checkJain(t, l, api.Wide{}, api.Wide{}, api.ErrInvalid)
	}
	for _, bad := range invalid() {
		for _, n := range []int{1, 2, 3, 31, 32, 33} {
			for _, i := range []int{0, n / 2, n - 1} {
				l := with(full(n, 1000), i, func(s *api.Sample) { *s = bad })
				checkWorst(t, l, 0, 0, api.ErrInvalid)
				checkJain(t, l, api.Wide{}, api.Wide{}, api.ErrInvalid)
			}
		}
	}
}

// TestBadPlaces checks that a sample that is not valid is found at each place of lists of each length.
func TestBadPlaces(t *testing.T) {
	for n := 1; n <= flowCount; n++ {
		for i := range n {
			l := with(full(n, 1000), i, func(s *api.Sample) { s.Most = 4097 })
			checkWorst(t, l, 0, 0, api.ErrInvalid)
			checkJain(t, l, api.Wide{}, api.Wide{}, api.ErrInvalid)
		}
	}
}

// TestJainOne checks P14.3 for one sample, where numerator and denominator are the square of its x: all weights, and all numbers of bytes around the first steps of rounding.
func TestJainOne(t *testing.T) {
	for weight := 1; weight <= heaviest; weight++ {
		for bytes := range int64(3000) {
			x := uint64(bytes * perByte[weight] / 1024)
			checkJain(t, []api.Sample{sample(weight, bytes, int(bytes))}, api.Wide{Lo: x * x}, api.Wide{Lo: x * x}, api.OK)
		}
		for _, bytes := range goodBytes {
			checkList(t, []api.Sample{sample(weight, bytes, 0)})
		}
	}
}

// TestJain checks P14.3 but for its errors with numbers that are written out.
func TestJain(t *testing.T) {
	checkJain(t, list(0), api.Wide{}, api.Wide{}, api.OK)
	checkJain(t, list(0, 0, 0), api.Wide{}, api.Wide{}, api.OK)
	// Each x is rounded by itself: 45045 / 1024 is 43.98.., and one x more would be 87 for both.
	checkJain(t, []api.Sample{sample(16, 1, 0), sample(16, 1, 0)}, api.Wide{Lo: 86 * 86}, api.Wide{Lo: 2 * 2 * 43 * 43}, api.OK)
	// 48048 / 1024 is 46.92.., and 720720 / 1024 is 703.82..
	checkJain(t, []api.Sample{sample(15, 1, 9), sample(16, 1, 4096), sample(1, 1, 0)}, api.Wide{Lo: 792 * 792}, api.Wide{Lo: 3 * (46*46 + 43*43 + 703*703)}, api.OK)
	checkJain(t, []api.Sample{sample(1, mostBytes, 0)}, api.Wide{Hi: 123843, Lo: 9359605925582733312}, api.Wide{Hi: 123843, Lo: 9359605925582733312}, api.OK)
	checkJain(t, []api.Sample{sample(1, 0, 0), sample(1, mostBytes, 0)}, api.Wide{Hi: 123843, Lo: 9359605925582733312}, api.Wide{Hi: 247687, Lo: 272467777455915008}, api.OK)
	checkJain(t, []api.Sample{sample(16, mostBytes, 0), sample(1, mostBytes, 0)}, api.Wide{Hi: 139807, Lo: 13088133418254860288}, api.Wide{Hi: 248654, Lo: 10001307299831873536}, api.OK)
	var all, equal []api.Sample
	for i := range flowCount {
		equal = append(equal, sample(1, mostBytes, i))
	}
	for weight := 1; weight <= heaviest; weight++ {
		all = append(all, sample(weight, mostBytes, 4096-weight))
	}
	checkJain(t, all, api.Wide{Hi: 1415448, Lo: 2428992709571117056}, api.Wide{Hi: 3139376, Lo: 9331247321679134720}, api.OK)
	checkJain(t, equal, api.Wide{Hi: 126815751, Lo: 10376293541461622784}, api.Wide{Hi: 126815751, Lo: 10376293541461622784}, api.OK)
}

// randomNumber returns a number from 0 to most, mostly a small one.
func randomNumber(source *rand.Rand, most int64) int64 {
	return source.Int64N(most>>source.IntN(33) + 1)
}

// randomSample returns a valid sample.
func randomSample(source *rand.Rand) api.Sample {
	return sample(1+source.IntN(heaviest), randomNumber(source, mostBytes), int(randomNumber(source, longest)))
}

// randomList returns at least least valid samples, of which some may have the same service.
func randomList(source *rand.Rand, least int) []api.Sample {
	var out []api.Sample
	service := randomNumber(source, mostBytes/heaviest)
	share := source.IntN(5)
	for range least + source.IntN(flowCount+1-least) {
		s := randomSample(source)
		if source.IntN(4) < share {
			s.Bytes = service * int64(s.Weight)
		}
		out = append(out, s)
	}
	return out
}

// TestRandom compares all functions with their second wordings: valid samples, and the same with one that is not valid.
func TestRandom(t *testing.T) {
	source := rand.New(rand.NewPCG(141, 142))
	bad := invalid()
	for range 4000 {
		l := randomList(source, 0)
		checkList(t, l)
		for i := 1; i < len(l); i++ {
			checkPair(t, l[i-1], l[i])
		}
		if len(l) > 0 {
			l[source.IntN(len(l))] = bad[source.IntN(len(bad))]
			checkList(t, l)
		}
	}
}

// TestWorstIsFair checks that Worst agrees with Fair: all pairs are fair exactly if the worst one is.
func TestWorstIsFair(t *testing.T) {
	source := rand.New(rand.NewPCG(143, 144))
	fair := 0
	for range 3000 {
		var l []api.Sample
		for range 2 + source.IntN(6) {
			l = append(l, sample(1+source.IntN(heaviest), source.Int64N(400), source.IntN(400)))
		}
		want := true
		for j := range l {
			for i := range j {
				want = want && fairness.Fair(l[i], l[j])
			}
		}
		i, j, err := fairness.Worst(l)
		if err != api.OK || fairness.Fair(l[i], l[j]) != want {
			t.Fatalf("Worst(%v) = %d, %d, %d, but that all pairs are fair is %t", l, i, j, err, want)
		}
		if want {
			fair++
		}
	}
	if fair < 100 || fair > 2900 {
		t.Errorf("all pairs are fair in %d of 3000 lists", fair)
	}
}

// isLess reports whether x is less than y.
func isLess(x, y api.Wide) bool {
	return x.Hi < y.Hi || x.Hi == y.Hi && x.Lo < y.Lo
}

// TestJainIsAtMostOne checks the chapter's first consequence: the numerator is at most the denominator, and both are equal exactly if all x are equal.
func TestJainIsAtMostOne(t *testing.T) {
	source := rand.New(rand.NewPCG(145, 146))
	equal := 0
	for n := range 5000 {
		l := randomList(source, 1)
		switch n % 5 {
		case 0:
			// One byte makes the difference.
			l = full(len(l), randomNumber(source, mostBytes/heaviest-1))
			l[source.IntN(len(l))].Bytes++
		case 1:
			l = full(len(l), randomNumber(source, mostBytes/heaviest))
		}
		x := parts(l)
		want := !slices.ContainsFunc(x, func(y *big.Int) bool { return y.Cmp(x[0]) != 0 })
		num, den, err := fairness.Jain(l)
		if err != api.OK || isLess(den, num) || (num == den) != want {
			t.Fatalf("Jain(%v) = %v, %v, %d, but that all x are equal is %t", l, num, den, err, want)
		}
		if want {
			equal++
		}
	}
	if equal < 1000 || equal > 3000 {
		t.Errorf("all x are equal in %d of 5000 lists", equal)
	}
}

// checkTriangle checks the chapter's second consequence for three valid samples: Gap is symmetric, and none is greater than the sum of the two others.
func checkTriangle(t *testing.T, a, b, c api.Sample) {
	t.Helper()
	gap := func(s, r api.Sample) int64 {
		forth, err1 := fairness.Gap(s, r)
		back, err2 := fairness.Gap(r, s)
		if forth != back || forth < 0 || err1 != api.OK || err2 != api.OK {
			t.Errorf("Gap(%v, %v) = %d, %d, and the other way %d, %d", s, r, forth, err1, back, err2)
		}
		return forth
	}
	if x, y, z := gap(a, b), gap(b, c), gap(a, c); x > y+z || y > x+z || z > x+y {
		t.Errorf("%v, %v and %v have the gaps %d, %d and %d", a, b, c, x, y, z)
	}
}

// TestTriangle checks the second consequence for all triples of a few samples, and for random ones.
func TestTriangle(t *testing.T) {
	var all []api.Sample
	for _, weight := range []int{1, 2, 15, 16} {
		for _, bytes := range []int64{0, 1, 30, 240, mostBytes - 1, mostBytes} {
			all = append(all, sample(weight, bytes, 5))
		}
	}
	for _, a := range all {
		for _, b := range all {
			for _, c := range all {
				checkTriangle(t, a, b, c)
			}
		}
	}
	source := rand.New(rand.NewPCG(147, 148))
	for range 10000 {
		checkTriangle(t, randomSample(source), randomSample(source), randomSample(source))
	}
}

// TestArguments checks that no function changes its list, nor what lies behind its end, nor reads the latter.
func TestArguments(t *testing.T) {
	junk := sample(77, 78, 79)
	good := sample(1, mostBytes, 0)
	for _, l := range [][]api.Sample{{}, list(5), list(9, 5, 7), full(31, 1000), full(32, 1000), full(33, 1000), append(list(4, 5), junk)} {
		for _, end := range []api.Sample{junk, good} {
			behind := append(slices.Clone(l), end, end)
			given := behind[:len(l)]
			checkList(t, given)
			if !slices.Equal(given, l) || !slices.Equal(behind[len(l):], []api.Sample{end, end}) {
				t.Errorf("%v has become %v", l, behind)
			}
		}
	}
}

// TestRepeated checks P2: the results depend only on the arguments, in whatever order the calls are made.
func TestRepeated(t *testing.T) {
	type call struct {
		a, b api.Sample
		l    []api.Sample
	}
	run := func(c call) (out []any) {
		gap, err1 := fairness.Gap(c.a, c.b)
		bound, err2 := fairness.Bound(c.a, c.b)
		i, j, err3 := fairness.Worst(c.l)
		num, den, err4 := fairness.Jain(c.l)
		return append(out, gap, err1, bound, err2, i, j, err3, num, den, err4, fairness.Valid(c.a), fairness.Fair(c.a, c.b))
	}
	source := rand.New(rand.NewPCG(149, 150))
	bad := invalid()
	var calls []call
	var want [][]any
	for i := range 500 {
		c := call{randomSample(source), randomSample(source), randomList(source, 0)}
		if i%5 == 0 {
			c.a = bad[source.IntN(len(bad))]
			c.l = append(c.l, c.a)
		}
		calls = append(calls, c)
		want = append(want, run(c))
	}
	for _, i := range source.Perm(len(calls)) {
		if got := run(calls[i]); !reflect.DeepEqual(got, want[i]) {
			t.Errorf("%+v: %v, and before %v", calls[i], got, want[i])
		}
	}
}
