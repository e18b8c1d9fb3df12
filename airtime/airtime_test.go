package airtime_test

import (
	"math"
	"math/big"
	"math/rand/v2"
	"reflect"
	"slices"
	"sort"
	"testing"

	"airshare/airtime"
	"airshare/api"
)

// The numbers of the document, written out.
const (
	fastest   = 10000000
	dearest   = 100000
	mostBytes = 262144
	mostRates = 12
)

// far are numbers that are far from all that is permitted; some of their lower bits are those of numbers that are permitted.
var far = []int64{-2, -100, -6000, 1 << 24, 1<<24 + 1, 1 << 31, 1<<31 + 1, 1 << 32, 1<<32 + 1, 1<<32 + 100, 1<<40 + 1, 1<<56 + 1, -1 << 31, -1 << 32, 1 - 1<<32, 100 - 1<<32, math.MaxInt64, math.MaxInt64 - 1, math.MinInt64, math.MinInt64 + 1, math.MinInt64 + 100}

// The numbers that are not permitted, in each of their places.
var (
	badKbps      = append([]int64{0, -1, fastest + 1, fastest + 2, 2 * fastest, -fastest}, far...)
	badOverheads = append([]int64{-1, dearest + 1, dearest + 2, 2 * dearest, -dearest}, far...)
	badBytes     = append([]int64{-1, mostBytes + 1, mostBytes + 2, 2 * mostBytes, -mostBytes}, far...)
)

// Numbers that are permitted, with both ends.
var (
	goodKbps      = []int64{1, 2, 3, 7, 100, 999, 1000, 1001, 6000, 7919, 7999, 8000, 8001, 9000, 16000, 54000, 123457, 1 << 20, 8000000, 9999999, fastest}
	goodOverheads = []int64{0, 1, 2, 99, 100, 7999, 8000, 65535, 65536, 99999, dearest}
	goodBytes     = []int{0, 1, 2, 3, 7, 100, 999, 1000, 1500, 4096, 65535, 65536, 99999, 131072, mostBytes - 2, mostBytes - 1, mostBytes}
)

// rate returns a rate; it keeps long lists short.
func rate(kbps, overhead int64) api.Rate {
	return api.Rate{Kbps: kbps, Overhead: overhead}
}

// valid returns all rates whose numbers are among the ones above that are permitted.
func valid() []api.Rate {
	var out []api.Rate
	for _, kbps := range goodKbps {
		for _, overhead := range goodOverheads {
			out = append(out, rate(kbps, overhead))
		}
	}
	return out
}

// invalid returns rates that are not valid: with one bad number beside each good one, and with two bad numbers.
func invalid() []api.Rate {
	out := []api.Rate{{}}
	for _, bad := range badKbps {
		for _, overhead := range slices.Concat(goodOverheads, badOverheads) {
			out = append(out, rate(bad, overhead))
		}
	}
	for _, bad := range badOverheads {
		for _, kbps := range goodKbps {
			out = append(out, rate(kbps, bad))
		}
	}
	return out
}

// isValid is a second wording of what a valid rate is.
func isValid(r api.Rate) bool {
	switch {
	case r.Kbps <= 0, r.Overhead < 0:
		return false
	case r.Kbps > 10000000, r.Overhead > 100000:
		return false
	}
	return true
}

// isSize is a second wording of which numbers of bytes are permitted.
func isSize(bytes int) bool {
	return !(bytes < 0 || bytes > 1<<18)
}

// wantTime returns what Time has to return: the least integer that is not below the overhead plus 8000 * bytes / Kbps.
func wantTime(r api.Rate, bytes int) (int64, api.Errno) {
	if !isValid(r) || !isSize(bytes) {
		return 0, api.ErrInvalid
	}
	exact := big.NewRat(8000*int64(bytes), r.Kbps)
	exact.Add(exact, new(big.Rat).SetInt64(r.Overhead))
	quotient, rest := new(big.Int).QuoRem(exact.Num(), exact.Denom(), new(big.Int))
	return quotient.Int64() + int64(rest.Sign()), api.OK
}

// wantFit returns what Fit has to return: it looks for the first number of bytes that takes too long.
func wantFit(r api.Rate, limit int64) (int, api.Errno) {
	if !isValid(r) {
		return 0, api.ErrInvalid
	}
	tooMany := sort.Search(mostBytes+1, func(bytes int) bool {
		time, _ := wantTime(r, bytes)
		return time > limit
	})
	if tooMany == 0 {
		return 0, api.ErrRange
	}
	return tooMany - 1, api.OK
}

// wantBest returns what Best has to return: the first index, when all are sorted by their times, then by themselves.
func wantBest(l []api.Rate, bytes int) (int, api.Errno) {
	switch {
	case len(l) > mostRates, !isSize(bytes), slices.ContainsFunc(l, func(r api.Rate) bool { return !isValid(r) }):
		return 0, api.ErrInvalid
	case len(l) == 0:
		return 0, api.ErrEmpty
	}
	var all [][]int64
	for i, r := range l {
		time, _ := wantTime(r, bytes)
		all = append(all, []int64{time, int64(i)})
	}
	slices.SortFunc(all, slices.Compare)
	return int(all[0][1]), api.OK
}

// wantEfficiency returns what Efficiency has to return.
func wantEfficiency(r api.Rate, bytes int) (int64, api.Errno) {
	time, err := wantTime(r, bytes)
	if err != api.OK || time == 0 {
		return 0, err
	}
	part := new(big.Int).Mul(big.NewInt(time-r.Overhead), big.NewInt(1000000))
	return part.Quo(part, big.NewInt(time)).Int64(), api.OK
}

func checkTime(t *testing.T, r api.Rate, bytes int, want int64, wantErr api.Errno) {
	t.Helper()
	if got, err := airtime.Time(r, bytes); got != want || err != wantErr {
		t.Errorf("Time(%v, %d) = %d, %d, want %d, %d", r, bytes, got, err, want, wantErr)
	}
}

func checkFit(t *testing.T, r api.Rate, limit int64, want int, wantErr api.Errno) {
	t.Helper()
	if got, err := airtime.Fit(r, limit); got != want || err != wantErr {
		t.Errorf("Fit(%v, %d) = %d, %d, want %d, %d", r, limit, got, err, want, wantErr)
	}
}

func checkBest(t *testing.T, l []api.Rate, bytes, want int, wantErr api.Errno) {
	t.Helper()
	if got, err := airtime.Best(l, bytes); got != want || err != wantErr {
		t.Errorf("Best(%v, %d) = %d, %d, want %d, %d", l, bytes, got, err, want, wantErr)
	}
}

func checkEfficiency(t *testing.T, r api.Rate, bytes int, want int64, wantErr api.Errno) {
	t.Helper()
	if got, err := airtime.Efficiency(r, bytes); got != want || err != wantErr {
		t.Errorf("Efficiency(%v, %d) = %d, %d, want %d, %d", r, bytes, got, err, want, wantErr)
	}
}

// checkBytes checks Time and Efficiency against their second wordings.
func checkBytes(t *testing.T, r api.Rate, bytes int) {
	t.Helper()
	time, err := wantTime(r, bytes)
	checkTime(t, r, bytes, time, err)
	part, err := wantEfficiency(r, bytes)
	checkEfficiency(t, r, bytes, part, err)
}

// checkLimit checks Fit against its second wording.
func checkLimit(t *testing.T, r api.Rate, limit int64) {
	t.Helper()
	bytes, err := wantFit(r, limit)
	checkFit(t, r, limit, bytes, err)
}

// checkList checks Best against its second wording.
func checkList(t *testing.T, l []api.Rate, bytes int) {
	t.Helper()
	want, err := wantBest(l, bytes)
	checkBest(t, l, bytes, want, err)
}

// TestExamples checks the chapter's examples.
func TestExamples(t *testing.T) {
	checkTime(t, rate(6000, 100), 1500, 2100, api.OK)
	checkFit(t, rate(6000, 100), 2100, 1500, api.OK)
	l := []api.Rate{rate(1000, 0), rate(6000, 500)}
	checkTime(t, l[0], 100, 800, api.OK)
	checkTime(t, l[1], 100, 634, api.OK)
	checkBest(t, l, 100, 1, api.OK)
}

// TestValid checks Valid in P19.1: every overhead, many numbers of kilobits, and rates that are not valid.
func TestValid(t *testing.T) {
	all := valid()
	for overhead := range int64(dearest + 1) {
		all = append(all, rate(1+overhead*9973%fastest, overhead))
	}
	for kbps := int64(1); kbps <= fastest; kbps += 61 {
		all = append(all, rate(kbps, kbps%(dearest+1)))
	}
	for _, r := range all {
		if !airtime.Valid(r) {
			t.Errorf("Valid(%v) = false", r)
		}
	}
	for _, r := range invalid() {
		if airtime.Valid(r) {
			t.Errorf("Valid(%v) = true", r)
		}
	}
}

// TestTime checks Time in P19.1 with numbers that are written out.
func TestTime(t *testing.T) {
	// No bytes take the overhead alone.
	for _, r := range valid() {
		checkTime(t, r, 0, r.Overhead, api.OK)
	}
	checkTime(t, rate(1, 0), 1, 8000, api.OK)
	checkTime(t, rate(1, dearest), mostBytes, 2097252000, api.OK)
	checkTime(t, rate(fastest, 0), mostBytes, 210, api.OK)
	checkTime(t, rate(fastest, dearest), mostBytes, 100210, api.OK)
	// A byte takes 8 / 10000 of a microsecond: 1250 of them fill one.
	checkTime(t, rate(fastest, 0), 1, 1, api.OK)
	checkTime(t, rate(fastest, 0), 1250, 1, api.OK)
	checkTime(t, rate(fastest, 0), 1251, 2, api.OK)
	checkTime(t, rate(fastest, 7), 1250, 8, api.OK)
	checkTime(t, rate(fastest, 7), 1251, 9, api.OK)
	checkTime(t, rate(8000, 0), 777, 777, api.OK)
	checkTime(t, rate(7999, 0), 777, 778, api.OK)
	checkTime(t, rate(8001, 0), 777, 777, api.OK)
	// 4 / 3, 8 / 3 and 4 microseconds, which are rounded once, not for each byte.
	checkTime(t, rate(6000, 10), 1, 12, api.OK)
	checkTime(t, rate(6000, 10), 2, 13, api.OK)
	checkTime(t, rate(6000, 10), 3, 14, api.OK)
	// 8000 / 999 is 8.008..
	checkTime(t, rate(999, 0), 1, 9, api.OK)
	checkTime(t, rate(999, 0), 999, 8000, api.OK)
	checkTime(t, rate(9999999, 0), 262144, 210, api.OK)
	checkTime(t, rate(7, 1), 262143, 299592001, api.OK)
}

// TestBytes checks Time and Efficiency for rates and numbers of bytes with both ends, and with some that are not permitted.
func TestBytes(t *testing.T) {
	for _, r := range slices.Concat(valid(), invalid()) {
		for _, bytes := range goodBytes {
			checkBytes(t, r, bytes)
		}
		for _, bad := range badBytes {
			checkBytes(t, r, int(bad))
		}
	}
}

// TestErrors checks the only error of Time and Efficiency with each number that is not permitted, alone and with others.
func TestErrors(t *testing.T) {
	check := func(r api.Rate, bytes int) {
		t.Helper()
		checkTime(t, r, bytes, 0, api.ErrInvalid)
		checkEfficiency(t, r, bytes, 0, api.ErrInvalid)
	}
	for _, r := range invalid() {
		check(r, 0)
		check(r, 100)
		check(r, mostBytes)
		check(r, -1)
		check(r, mostBytes+1)
	}
	for _, r := range valid() {
		for _, bad := range badBytes {
			check(r, int(bad))
		}
	}
}

// walk calls do with every number of bytes and its time on air, which it finds by counting microseconds.
func walk(r api.Rate, do func(bytes int, time int64)) {
	time := r.Overhead
	// room is what can be sent until time, beyond the bytes, in parts of a byte: a microsecond brings Kbps of them, and a byte needs 8000.
	room := int64(0)
	for bytes := range mostBytes + 1 {
		if bytes > 0 {
			room -= 8000
		}
		for room < 0 {
			room += r.Kbps
			time++
		}
		do(bytes, time)
	}
}

// TestAllBytes checks Time and Efficiency for all numbers of bytes, and Fit at both ends of each interval of times on air in which it returns the same number.
func TestAllBytes(t *testing.T) {
	for _, r := range []api.Rate{rate(101, 77), rate(2999, 100), rate(6000, 0), rate(7999, 1), rate(8000, 5), rate(8001, 0), rate(54000, 12345), rate(9999999, 1), rate(fastest, dearest)} {
		lastTime, lastBytes := int64(-1), -1
		walk(r, func(bytes int, time int64) {
			checkTime(t, r, bytes, time, api.OK)
			if time > lastTime && bytes > 0 {
				checkFit(t, r, lastTime, lastBytes, api.OK)
				checkFit(t, r, time-1, lastBytes, api.OK)
			}
			if time > 0 {
				checkEfficiency(t, r, bytes, 1000000*(time-r.Overhead)/time, api.OK)
			}
			lastTime, lastBytes = time, bytes
		})
		checkFit(t, r, lastTime, mostBytes, api.OK)
		checkFit(t, r, lastTime+1, mostBytes, api.OK)
	}
}

// TestSlowBytes checks the slowest rates for numbers of bytes at both ends, where a microsecond is far less than a byte.
func TestSlowBytes(t *testing.T) {
	for _, r := range []api.Rate{rate(1, 0), rate(1, dearest), rate(2, 3), rate(3, 0)} {
		for i := range 2000 {
			for _, bytes := range []int{i, mostBytes - 1 - i} {
				time, _ := wantTime(r, bytes)
				next, _ := wantTime(r, bytes+1)
				checkTime(t, r, bytes, time, api.OK)
				checkFit(t, r, time, bytes, api.OK)
				checkFit(t, r, (time+next)/2, bytes, api.OK)
				checkFit(t, r, next-1, bytes, api.OK)
				checkFit(t, r, next, bytes+1, api.OK)
			}
		}
	}
}

// TestFit checks P19.2 but for its errors with numbers that are written out.
func TestFit(t *testing.T) {
	checkFit(t, rate(6000, 100), 100, 0, api.OK)
	checkFit(t, rate(6000, 100), 101, 0, api.OK)
	checkFit(t, rate(6000, 100), 102, 1, api.OK)
	checkFit(t, rate(6000, 100), 103, 2, api.OK)
	checkFit(t, rate(6000, 100), 104, 3, api.OK)
	checkFit(t, rate(6000, 100), 2099, 1499, api.OK)
	checkFit(t, rate(6000, 100), 2101, 1500, api.OK)
	checkFit(t, rate(6000, 100), 2102, 1501, api.OK)
	checkFit(t, rate(1, 0), 0, 0, api.OK)
	checkFit(t, rate(1, 0), 7999, 0, api.OK)
	checkFit(t, rate(1, 0), 8000, 1, api.OK)
	checkFit(t, rate(1, 0), 2097151999, mostBytes-1, api.OK)
	checkFit(t, rate(1, 0), 2097152000, mostBytes, api.OK)
	checkFit(t, rate(1, dearest), 2097251999, mostBytes-1, api.OK)
	checkFit(t, rate(1, dearest), 2097252000, mostBytes, api.OK)
	checkFit(t, rate(fastest, 0), 0, 0, api.OK)
	checkFit(t, rate(fastest, 0), 1, 1250, api.OK)
	checkFit(t, rate(fastest, 0), 209, 261250, api.OK)
	checkFit(t, rate(fastest, 0), 210, mostBytes, api.OK)
	checkFit(t, rate(fastest, dearest), 100209, 261250, api.OK)
	checkFit(t, rate(fastest, dearest), 100210, mostBytes, api.OK)
	checkFit(t, rate(8000, 0), mostBytes-1, mostBytes-1, api.OK)
	checkFit(t, rate(8000, 0), mostBytes, mostBytes, api.OK)
	checkFit(t, rate(8000, 0), mostBytes+1, mostBytes, api.OK)
}

// limits returns times on air around both ends for a rate and far beyond: some of them times Kbps do not fit into 64 bits.
func limits(r api.Rate) []int64 {
	longest, _ := wantTime(r, mostBytes)
	out := []int64{math.MinInt64, math.MinInt64 + 1, math.MaxInt64, math.MaxInt64 - 1, math.MaxInt64 / r.Kbps, math.MaxInt64/r.Kbps + 1, math.MaxInt64/r.Kbps + r.Overhead + 1}
	for shift := range 62 {
		power := int64(1) << shift
		out = append(out, power-1, power, power+1, -power, power+r.Overhead, r.Overhead-power, longest-power, longest+power)
	}
	for step := int64(-3); step <= 3; step++ {
		out = append(out, r.Overhead+step, longest+step)
	}
	return out
}

// TestLimits checks Fit for times on air around both ends and far beyond.
func TestLimits(t *testing.T) {
	for _, r := range valid() {
		for _, limit := range limits(r) {
			checkLimit(t, r, limit)
		}
	}
}

// TestFitWithoutLimit checks that Fit returns MaxBytes for every airtime from that of MaxBytes on, also where airtime times Kbps does not fit into 64 bits.
func TestFitWithoutLimit(t *testing.T) {
	for _, r := range valid() {
		longest, _ := wantTime(r, mostBytes)
		for limit := longest; limit > 0; limit += limit/7 + 1 {
			checkFit(t, r, limit, mostBytes, api.OK)
		}
		checkFit(t, r, math.MaxInt64, mostBytes, api.OK)
	}
}

// TestFitErrors checks the errors of P19.2 and their order.
func TestFitErrors(t *testing.T) {
	for _, r := range valid() {
		checkFit(t, r, r.Overhead, 0, api.OK)
		for _, less := range []int64{1, 2, 100, 1 << 20, 1 << 32, math.MaxInt64} {
			checkFit(t, r, r.Overhead-less, 0, api.ErrRange)
		}
		checkFit(t, r, math.MinInt64, 0, api.ErrRange)
	}
	for _, r := range invalid() {
		for _, limit := range []int64{math.MinInt64, -1, 0, 1, 100, dearest, 1 << 31, math.MaxInt64} {
			checkFit(t, r, limit, 0, api.ErrInvalid)
		}
	}
}

// TestEfficiency checks P19.4 but for its errors with numbers that are written out.
func TestEfficiency(t *testing.T) {
	// No bytes are no part of the overhead, and no time at all is 0 as well.
	for _, r := range valid() {
		checkEfficiency(t, r, 0, 0, api.OK)
	}
	// Without overhead, the part is all.
	for _, kbps := range goodKbps {
		for _, bytes := range goodBytes[1:] {
			checkEfficiency(t, rate(kbps, 0), bytes, 1000000, api.OK)
		}
	}
	checkEfficiency(t, rate(6000, 100), 1500, 952380, api.OK)
	checkEfficiency(t, rate(8000, 1), 1, 500000, api.OK)
	checkEfficiency(t, rate(8000, 1), 2, 666666, api.OK)
	checkEfficiency(t, rate(8000, 2), 1, 333333, api.OK)
	checkEfficiency(t, rate(8000, 6), 1, 142857, api.OK)
	// The time has been rounded up before: 4 / 3 microseconds count as 2 of 102.
	checkEfficiency(t, rate(6000, 100), 1, 19607, api.OK)
	checkEfficiency(t, rate(fastest, dearest), 1, 9, api.OK)
	checkEfficiency(t, rate(fastest, 99999), 1, 10, api.OK)
	checkEfficiency(t, rate(fastest, dearest), mostBytes, 2095, api.OK)
	checkEfficiency(t, rate(1, dearest), mostBytes, 999952, api.OK)
	checkEfficiency(t, rate(1, 1), mostBytes, 999999, api.OK)
	checkEfficiency(t, rate(1, 2097), mostBytes, 999999, api.OK)
	checkEfficiency(t, rate(1, 2098), mostBytes, 999998, api.OK)
}

// TestEfficiencyParts checks P19.4 at a rate of a byte a microsecond, for all small numbers of bytes and overheads. Many of the parts are whole numbers that must not be rounded down.
func TestEfficiencyParts(t *testing.T) {
	for bytes := range int64(500) {
		for overhead := range int64(500) {
			want := int64(0)
			if bytes > 0 {
				want = 1000000 * bytes / (bytes + overhead)
			}
			checkEfficiency(t, rate(8000, overhead), int(bytes), want, api.OK)
		}
	}
}

// flat returns n rates of the same time for each number of bytes.
func flat(n int) []api.Rate {
	return slices.Repeat([]api.Rate{rate(8000, 50)}, n)
}

// with returns a copy of l with another rate in one place.
func with(l []api.Rate, i int, r api.Rate) []api.Rate {
	out := slices.Clone(l)
	out[i] = r
	return out
}

// TestBest checks P19.3 but for its errors with indices that are written out.
func TestBest(t *testing.T) {
	slow, fast := rate(1000, 0), rate(6000, 500)
	// 75 bytes take 600 both ways, and then the first one counts.
	checkBest(t, []api.Rate{slow, fast}, 74, 0, api.OK)
	checkBest(t, []api.Rate{slow, fast}, 75, 0, api.OK)
	checkBest(t, []api.Rate{slow, fast}, 76, 1, api.OK)
	checkBest(t, []api.Rate{fast, slow}, 74, 1, api.OK)
	checkBest(t, []api.Rate{fast, slow}, 75, 0, api.OK)
	checkBest(t, []api.Rate{fast, slow}, 76, 0, api.OK)
	// No bytes take the overhead alone, however fast the rate is.
	checkBest(t, []api.Rate{rate(fastest, 3), rate(1, 2), rate(1000, 2)}, 0, 1, api.OK)
	checkBest(t, []api.Rate{rate(1, 0), rate(fastest, 0)}, 0, 0, api.OK)
	checkBest(t, []api.Rate{rate(1, 0), rate(fastest, 0)}, 1, 1, api.OK)
	// Times that are equal once they are rounded, even if a later rate is faster.
	checkBest(t, []api.Rate{rate(8000, 0), rate(9000, 0), rate(fastest, 0)}, 1, 0, api.OK)
	checkBest(t, []api.Rate{rate(7999, 0), rate(9000, 0), rate(fastest, 0)}, 1, 1, api.OK)
	checkBest(t, []api.Rate{rate(fastest, 1), rate(9000, 0), rate(fastest, 0)}, 1, 1, api.OK)
	// Neither the least overhead nor the greatest number of kilobits decides alone.
	checkBest(t, []api.Rate{rate(1000, 0), rate(6000, 100), rate(54000, 1000)}, 100, 1, api.OK)
	checkBest(t, []api.Rate{rate(1, dearest), rate(1, dearest-1)}, mostBytes, 1, api.OK)
	checkBest(t, []api.Rate{rate(1, dearest), rate(2, dearest)}, mostBytes, 1, api.OK)
	for _, r := range valid() {
		checkBest(t, []api.Rate{r}, 0, 0, api.OK)
		checkBest(t, []api.Rate{r}, mostBytes, 0, api.OK)
	}
}

// TestBestPlaces checks Best where one or two rates stand out, at each place of lists of each length.
func TestBestPlaces(t *testing.T) {
	for n := 1; n <= mostRates; n++ {
		l := flat(n)
		checkBest(t, l, 100, 0, api.OK)
		for j := range n {
			checkBest(t, with(l, j, rate(8000, 49)), 100, j, api.OK)
			checkBest(t, with(l, j, rate(8081, 50)), 100, j, api.OK)
			for i := range j {
				better := with(l, j, rate(8000, 49))
				checkBest(t, with(better, i, rate(8000, 49)), 100, i, api.OK)
				checkBest(t, with(better, i, rate(8000, 48)), 100, i, api.OK)
				checkBest(t, with(better, i, rate(8000, 51)), 100, j, api.OK)
			}
		}
	}
}

// TestShortLists checks Best for all lists of up to four of a few rates, of which two are not valid.
func TestShortLists(t *testing.T) {
	all := []api.Rate{rate(1000, 0), rate(6000, 500), rate(6000, 499), rate(8000, 50), rate(8001, 50), rate(1, 0), rate(fastest, dearest), rate(1000, -1), {}}
	var grow func(l []api.Rate)
	grow = func(l []api.Rate) {
		for _, bytes := range []int{0, 1, 75, 76, mostBytes, mostBytes + 1} {
			checkList(t, l, bytes)
		}
		if len(l) == 4 {
			return
		}
		for _, r := range all {
			grow(append(slices.Clone(l), r))
		}
	}
	grow(nil)
}

// TestBestErrors checks the errors of P19.3 and their order.
func TestBestErrors(t *testing.T) {
	for _, l := range [][]api.Rate{nil, {}} {
		for _, bytes := range goodBytes {
			checkBest(t, l, bytes, 0, api.ErrEmpty)
		}
		for _, bad := range badBytes {
			checkBest(t, l, int(bad), 0, api.ErrInvalid)
		}
	}
	for _, n := range []int{1, 2, 11, 12, 13} {
		for _, bad := range badBytes {
			checkBest(t, flat(n), int(bad), 0, api.ErrInvalid)
		}
	}
	for _, n := range []int{13, 14, 16, 24, 256, 257, 268, 1 << 16, 1<<16 + 1} {
		checkBest(t, flat(n), 100, 0, api.ErrInvalid)
		checkBest(t, with(flat(n), n-1, rate(8000, 0)), 100, 0, api.ErrInvalid)
	}
	for _, bad := range invalid() {
		for _, n := range []int{1, 2, 11, 12, 13} {
			for _, i := range []int{0, n / 2, n - 1} {
				checkBest(t, with(flat(n), i, bad), 100, 0, api.ErrInvalid)
			}
		}
	}
}

// TestBadPlaces checks that a rate that is not valid is found at each place of lists of each length, whatever the times of the others are.
func TestBadPlaces(t *testing.T) {
	for n := 1; n <= mostRates; n++ {
		for i := range n {
			for _, bad := range []api.Rate{rate(0, 0), rate(fastest+1, 0), rate(8000, -1), rate(8000, dearest+1)} {
				checkBest(t, with(flat(n), i, bad), 100, 0, api.ErrInvalid)
				checkBest(t, with(with(flat(n), 0, rate(fastest, 0)), i, bad), 100, 0, api.ErrInvalid)
				checkBest(t, with(with(flat(n), n-1, rate(fastest, 0)), i, bad), 100, 0, api.ErrInvalid)
			}
		}
	}
}

// randomNumber returns a number from 0 to most, mostly a small one.
func randomNumber(source *rand.Rand, most int64) int64 {
	return source.Int64N(most>>source.IntN(24) + 1)
}

// randomRate returns a valid rate.
func randomRate(source *rand.Rand) api.Rate {
	return rate(1+randomNumber(source, fastest-1), randomNumber(source, dearest))
}

// randomList returns up to MaxRates valid rates, of which some may be equal.
func randomList(source *rand.Rand) []api.Rate {
	var out []api.Rate
	for range source.IntN(mostRates + 1) {
		if r := randomRate(source); len(out) == 0 || source.IntN(4) > 0 {
			out = append(out, r)
		} else {
			out = append(out, out[source.IntN(len(out))])
		}
	}
	return out
}

// TestRandom compares all functions with their second wordings: valid rates, and lists with one that is not valid.
func TestRandom(t *testing.T) {
	source := rand.New(rand.NewPCG(191, 192))
	bad := invalid()
	for range 20000 {
		r := randomRate(source)
		bytes := int(randomNumber(source, mostBytes))
		checkBytes(t, r, bytes)
		checkLimit(t, r, randomNumber(source, 1<<32))
		l := randomList(source)
		checkList(t, l, bytes)
		if len(l) > 0 {
			l[source.IntN(len(l))] = bad[source.IntN(len(bad))]
			checkList(t, l, bytes)
		}
	}
}

// TestConsequences checks the chapter's consequences with the program's own results: Time does not decrease with the bytes, and one byte more than Fit takes longer.
func TestConsequences(t *testing.T) {
	source := rand.New(rand.NewPCG(193, 194))
	time := func(r api.Rate, bytes int) int64 {
		out, err := airtime.Time(r, bytes)
		if err != api.OK {
			t.Fatalf("Time(%v, %d) = %d, %d", r, bytes, out, err)
		}
		return out
	}
	full := 0
	for range 50000 {
		r := randomRate(source)
		a, b := int(randomNumber(source, mostBytes)), int(randomNumber(source, mostBytes))
		if time(r, min(a, b)) > time(r, max(a, b)) {
			t.Errorf("%v: %d and %d bytes take %d and %d", r, a, b, time(r, a), time(r, b))
		}
		limit := r.Overhead + randomNumber(source, 1<<32)
		fit, err := airtime.Fit(r, limit)
		if err != api.OK || time(r, fit) > limit {
			t.Fatalf("Fit(%v, %d) = %d, %d, which takes %d", r, limit, fit, err, time(r, fit))
		}
		if fit == mostBytes {
			full++
		} else if time(r, fit+1) <= limit {
			t.Errorf("Fit(%v, %d) = %d, but one more byte takes %d", r, limit, fit, time(r, fit+1))
		}
	}
	if full < 5000 || full > 45000 {
		t.Errorf("Fit is MaxBytes in %d of 50000 cases", full)
	}
}

// TestArguments checks that Best changes neither its list nor what lies behind its end, and does not read the latter.
func TestArguments(t *testing.T) {
	for _, l := range [][]api.Rate{{}, flat(1), flat(12), flat(13), {rate(1000, 0), rate(6000, 500)}, {rate(6000, 500), rate(1000, 0), rate(0, 0)}} {
		for _, end := range []api.Rate{rate(-1, -1), rate(fastest, 0)} {
			behind := append(slices.Clone(l), end, end)
			given := behind[:len(l)]
			checkList(t, given, 100)
			if !slices.Equal(given, l) || !slices.Equal(behind[len(l):], []api.Rate{end, end}) {
				t.Errorf("%v has become %v", l, behind)
			}
		}
	}
}

// TestRepeated checks P2: the results depend only on the arguments, in whatever order the calls are made.
func TestRepeated(t *testing.T) {
	type call struct {
		r     api.Rate
		l     []api.Rate
		bytes int
		limit int64
	}
	run := func(c call) (out []any) {
		time, err1 := airtime.Time(c.r, c.bytes)
		fit, err2 := airtime.Fit(c.r, c.limit)
		best, err3 := airtime.Best(c.l, c.bytes)
		part, err4 := airtime.Efficiency(c.r, c.bytes)
		return append(out, airtime.Valid(c.r), time, err1, fit, err2, best, err3, part, err4)
	}
	source := rand.New(rand.NewPCG(195, 196))
	bad := invalid()
	var calls []call
	var want [][]any
	for i := range 1000 {
		c := call{randomRate(source), randomList(source), int(randomNumber(source, mostBytes+1000)), randomNumber(source, 1<<32)}
		if i%5 == 0 {
			c.r = bad[source.IntN(len(bad))]
			c.l = append(c.l, c.r)
		}
		calls = append(calls, c)
		want = append(want, run(c))
	}
	for _, i := range source.Perm(len(calls)) {
		if got := run(calls[i]); !reflect.DeepEqual(got, want[i]) {
			t.Errorf("%+v: %v, and before %v", calls[i], got, want[i])
		}
	}
}
