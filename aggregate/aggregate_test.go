package aggregate_test

import (
	"math"
	"math/rand/v2"
	"reflect"
	"slices"
	"sort"
	"testing"

	"airshare/aggregate"
	"airshare/api"
)

// The numbers of the document, written out.
const (
	mostPackets    = 32
	mostBytes      = 262144
	mostAirtime    = 1048576
	mostLength     = 4096
	mostCandidates = 128
	fastest        = 10000000
	dearest        = 100000
)

// far are numbers that are far from all that is permitted; some of their lower bits are those of numbers that are permitted.
var far = []int64{-2, -4, -32, -100, 1 << 22, 1<<24 + 1, 1 << 31, 1<<31 + 1, 1 << 32, 1<<32 + 1, 1<<32 + 32, 1<<32 + 100, 1<<40 + 1, 1<<56 + 1, -1 << 31, 1 - 1<<31, -1 << 32, 1 - 1<<32, 100 - 1<<32, math.MaxInt64, math.MaxInt64 - 1, math.MinInt64, math.MinInt64 + 1, math.MinInt64 + 32}

// The numbers that are not permitted, in each of their places.
var (
	badPackets   = append([]int64{0, -1, mostPackets + 1, mostPackets + 2, 64, 128, 257, 288, 1<<16 + 1}, far...)
	badBytes     = append([]int64{0, -1, mostBytes + 1, mostBytes + 2, 2 * mostBytes, -mostBytes}, far...)
	badAirtimes  = append([]int64{0, -1, mostAirtime + 1, mostAirtime + 2, 2 * mostAirtime, -mostAirtime}, far...)
	badLengths   = append([]int64{0, -1, mostLength + 1, mostLength + 2, 2 * mostLength, -mostLength, 1<<16 + 1}, far...)
	badKbps      = []int64{0, -1, fastest + 1, -fastest, 1<<32 + 1, 8000 - 1<<32, math.MaxInt64, math.MinInt64}
	badOverheads = []int64{-1, dearest + 1, -dearest, 1 << 32, -1 << 32, math.MaxInt64, math.MinInt64}
)

// Numbers of caps that are permitted, with both ends.
var (
	goodPackets  = []int{1, 2, 3, 4, 7, 8, 15, 16, 17, 31, 32}
	goodBytes    = []int{1, 2, 3, 4, 5, 6, 99, 100, 350, 1000, 4095, 4096, 4097, 8196, 65535, 65536, 131195, 131196, 131197, mostBytes - 1, mostBytes}
	goodAirtimes = []int64{1, 2, 3, 99, 100, 101, 303, 304, 1000, 7999, 8000, 65536, 99999, 100000, 100001, mostAirtime - 1, mostAirtime}
)

// goodRates are valid rates; at the first one, a byte takes a microsecond.
var goodRates = []api.Rate{{Kbps: 8000}, {Kbps: 8000, Overhead: 100}, {Kbps: 6000}, {Kbps: 6000, Overhead: 100}, {Kbps: 7999, Overhead: 1}, {Kbps: 8001, Overhead: 7}, {Kbps: 54000, Overhead: 44}, {Kbps: 1}, {Kbps: 1, Overhead: dearest}, {Kbps: 1000, Overhead: 99999}, {Kbps: fastest}, {Kbps: fastest, Overhead: 3}, {Kbps: fastest, Overhead: dearest}}

// plain is the rate at which a byte takes a microsecond.
var plain = goodRates[0]

// wide are the caps that permit the most.
var wide = caps(mostPackets, mostBytes, mostAirtime)

// caps returns caps; it keeps long lists short.
func caps(packets, bytes int, airtime int64) api.Caps {
	return api.Caps{Packets: packets, Bytes: bytes, Airtime: airtime}
}

// valid returns all caps whose numbers are among the ones above that are permitted.
func valid() []api.Caps {
	var out []api.Caps
	for _, packets := range goodPackets {
		for _, bytes := range goodBytes {
			for _, airtime := range goodAirtimes {
				out = append(out, caps(packets, bytes, airtime))
			}
		}
	}
	return out
}

// invalid returns caps that are not valid: with one bad number, and with two or three.
func invalid() []api.Caps {
	out := []api.Caps{{}}
	for i, bad := range badPackets {
		for _, bytes := range []int{1, 1000, mostBytes} {
			out = append(out, caps(int(bad), bytes, 1), caps(int(bad), bytes, 100000), caps(int(bad), bytes, mostAirtime))
		}
		out = append(out, caps(int(bad), int(badBytes[i%len(badBytes)]), 1000), caps(int(bad), 1000, badAirtimes[i%len(badAirtimes)]))
		out = append(out, caps(int(bad), int(badBytes[i%len(badBytes)]), badAirtimes[i%len(badAirtimes)]))
	}
	for _, bad := range badBytes {
		for _, packets := range []int{1, 2, mostPackets} {
			out = append(out, caps(packets, int(bad), 1), caps(packets, int(bad), 100000), caps(packets, int(bad), mostAirtime))
		}
		out = append(out, caps(2, int(bad), bad))
	}
	for _, bad := range badAirtimes {
		for _, packets := range []int{1, 2, mostPackets} {
			out = append(out, caps(packets, 1, bad), caps(packets, 1000, bad), caps(packets, mostBytes, bad))
		}
	}
	return out
}

// invalidRates returns rates that are not valid.
func invalidRates() []api.Rate {
	out := []api.Rate{{}}
	for _, bad := range badKbps {
		out = append(out, api.Rate{Kbps: bad}, api.Rate{Kbps: bad, Overhead: dearest}, api.Rate{Kbps: bad, Overhead: -1})
	}
	for _, bad := range badOverheads {
		out = append(out, api.Rate{Kbps: 1, Overhead: bad}, api.Rate{Kbps: 8000, Overhead: bad}, api.Rate{Kbps: fastest, Overhead: bad})
	}
	return out
}

// isValid is a second wording of what valid caps are.
func isValid(c api.Caps) bool {
	switch {
	case c.Packets <= 0, c.Bytes <= 0, c.Airtime <= 0:
		return false
	case c.Packets > 32, c.Bytes > 1<<18, c.Airtime > 1<<20:
		return false
	}
	return true
}

// isRate is a second wording of what a valid rate is.
func isRate(r api.Rate) bool {
	return !(r.Kbps <= 0 || r.Kbps > fastest || r.Overhead < 0 || r.Overhead > dearest)
}

// isBad reports whether a length is not permitted.
func isBad(length int) bool {
	return !(0 < length && length <= mostLength)
}

// timeOf returns the time on air of some bytes at a valid rate: microseconds are counted in parts of Kbps.
func timeOf(r api.Rate, bytes int) int64 {
	parts := 8000 * int64(bytes)
	whole := parts / r.Kbps
	if whole*r.Kbps < parts {
		whole++
	}
	return r.Overhead + whole
}

// wantSize returns what Size has to return.
func wantSize(lengths []int) (int, api.Errno) {
	switch {
	case len(lengths) > mostPackets, slices.ContainsFunc(lengths, isBad):
		return 0, api.ErrInvalid
	case len(lengths) == 0:
		return 0, api.ErrEmpty
	}
	size := 4 * (len(lengths) - 1)
	for _, length := range lengths {
		size += length
	}
	return size, api.OK
}

// wantPermitted returns what Permitted has to return.
func wantPermitted(lengths []int, c api.Caps, r api.Rate) bool {
	size, err := wantSize(lengths)
	return err == api.OK && isValid(c) && isRate(r) && len(lengths) <= c.Packets && size <= c.Bytes && timeOf(r, size) <= c.Airtime
}

// wantBuild returns what Build has to return: it tries the longest aggregate first.
func wantBuild(lengths []int, c api.Caps, r api.Rate) (int, int64, api.Errno) {
	switch {
	case !isValid(c), !isRate(r), len(lengths) > mostCandidates, slices.ContainsFunc(lengths, isBad):
		return 0, 0, api.ErrInvalid
	case len(lengths) == 0:
		return 0, 0, api.ErrEmpty
	}
	for n := len(lengths); n > 0; n-- {
		if wantPermitted(lengths[:n], c, r) {
			size, _ := wantSize(lengths[:n])
			return n, timeOf(r, size), api.OK
		}
	}
	return 0, 0, api.OK
}

// mostSize returns the greatest number of bytes under the caps, -1 if there is none: it looks for the first one that is too many.
func mostSize(c api.Caps, r api.Rate) int {
	full := 0
	for packet := range c.Packets {
		if packet > 0 {
			full += 4
		}
		full += mostLength
	}
	return sort.Search(mostBytes+1, func(bytes int) bool {
		return bytes > c.Bytes || bytes > full || timeOf(r, bytes) > c.Airtime
	}) - 1
}

// wantMost returns what Most has to return.
func wantMost(c api.Caps, r api.Rate) (int64, api.Errno) {
	if !isValid(c) || !isRate(r) {
		return 0, api.ErrInvalid
	}
	bytes := mostSize(c, r)
	if bytes < 0 {
		return 0, api.ErrRange
	}
	return timeOf(r, bytes), api.OK
}

func checkSize(t *testing.T, lengths []int, want int, wantErr api.Errno) {
	t.Helper()
	if got, err := aggregate.Size(lengths); got != want || err != wantErr {
		t.Errorf("Size(%v) = %d, %d, want %d, %d", lengths, got, err, want, wantErr)
	}
}

func checkBuild(t *testing.T, lengths []int, c api.Caps, r api.Rate, want int, wantTime int64, wantErr api.Errno) {
	t.Helper()
	if got, time, err := aggregate.Build(lengths, c, r); got != want || time != wantTime || err != wantErr {
		t.Errorf("Build(%v, %v, %v) = %d, %d, %d, want %d, %d, %d", lengths, c, r, got, time, err, want, wantTime, wantErr)
	}
}

func checkPermitted(t *testing.T, lengths []int, c api.Caps, r api.Rate, want bool) {
	t.Helper()
	if got := aggregate.Permitted(lengths, c, r); got != want {
		t.Errorf("Permitted(%v, %v, %v) = %v, want %v", lengths, c, r, got, want)
	}
}

func checkMost(t *testing.T, c api.Caps, r api.Rate, want int64, wantErr api.Errno) {
	t.Helper()
	if got, err := aggregate.Most(c, r); got != want || err != wantErr {
		t.Errorf("Most(%v, %v) = %d, %d, want %d, %d", c, r, got, err, want, wantErr)
	}
}

// checkList checks Size, Build and Permitted against their second wordings.
func checkList(t *testing.T, lengths []int, c api.Caps, r api.Rate) {
	t.Helper()
	size, err := wantSize(lengths)
	checkSize(t, lengths, size, err)
	n, time, err := wantBuild(lengths, c, r)
	checkBuild(t, lengths, c, r, n, time, err)
	checkPermitted(t, lengths, c, r, wantPermitted(lengths, c, r))
}

// checkCaps checks Most against its second wording.
func checkCaps(t *testing.T, c api.Caps, r api.Rate) {
	t.Helper()
	want, err := wantMost(c, r)
	checkMost(t, c, r, want, err)
}

// flat returns n packets of the same length.
func flat(n, length int) []int {
	return slices.Repeat([]int{length}, n)
}

// with returns a copy of l with another length in one place.
func with(l []int, i, length int) []int {
	out := slices.Clone(l)
	out[i] = length
	return out
}

// TestExamples checks the chapter's examples.
func TestExamples(t *testing.T) {
	lengths := []int{100, 200, 300}
	checkBuild(t, lengths, caps(2, 1000, 100000), plain, 2, 304, api.OK)
	checkBuild(t, lengths, caps(8, 350, 100000), plain, 2, 304, api.OK)
	checkSize(t, lengths, 608, api.OK)
}

// TestValid checks Valid in P20.1: every number of packets, of bytes and of microseconds that is permitted, and many that are not.
func TestValid(t *testing.T) {
	all := valid()
	for packets := 1; packets <= mostPackets; packets++ {
		all = append(all, caps(packets, 1, 1), caps(packets, mostBytes, mostAirtime))
	}
	for bytes := 1; bytes <= mostBytes; bytes++ {
		all = append(all, caps(1+bytes%mostPackets, bytes, 1+int64(bytes)*7919%mostAirtime))
	}
	for airtime := int64(1); airtime <= mostAirtime; airtime++ {
		all = append(all, caps(1+int(airtime%mostPackets), 1+int(airtime*7919%mostBytes), airtime))
	}
	for _, c := range all {
		if !aggregate.Valid(c) {
			t.Errorf("Valid(%v) = false", c)
		}
	}
	for _, c := range invalid() {
		if aggregate.Valid(c) {
			t.Errorf("Valid(%v) = true", c)
		}
	}
}

// TestSize checks Size in P20.1 but for its errors: every length alone, every number of packets, and sizes that are written out.
func TestSize(t *testing.T) {
	for length := 1; length <= mostLength; length++ {
		checkSize(t, []int{length}, length, api.OK)
		checkSize(t, []int{length, 1}, length+5, api.OK)
		checkSize(t, []int{mostLength, length}, length+4100, api.OK)
	}
	for n := 1; n <= mostPackets; n++ {
		checkSize(t, flat(n, 1), 5*n-4, api.OK)
		checkSize(t, flat(n, 100), 104*n-4, api.OK)
		checkSize(t, flat(n, mostLength), 4100*n-4, api.OK)
		for i := range n {
			checkSize(t, with(flat(n, 7), i, 4001), 11*n+3990, api.OK)
		}
	}
	checkSize(t, []int{1, 10, 100, 1000}, 1123, api.OK)
	checkSize(t, []int{1000, 100, 10, 1}, 1123, api.OK)
	checkSize(t, flat(mostPackets, mostLength), 131196, api.OK)
}

// TestSizeErrors checks the errors of Size in P20.1 and their order.
func TestSizeErrors(t *testing.T) {
	checkSize(t, nil, 0, api.ErrEmpty)
	checkSize(t, []int{}, 0, api.ErrEmpty)
	for _, n := range []int{33, 34, 48, 64, 128, 129, 256, 257, 288, 1 << 16, 1<<16 + 1} {
		checkSize(t, flat(n, 1), 0, api.ErrInvalid)
		checkSize(t, flat(n, 0), 0, api.ErrInvalid)
	}
	for _, bad := range badLengths {
		for n := 1; n <= mostPackets+1; n++ {
			for i := range n {
				checkSize(t, with(flat(n, 50), i, int(bad)), 0, api.ErrInvalid)
			}
		}
		// Two bad lengths do not make up for each other.
		checkSize(t, []int{int(bad), 100 - int(bad)}, 0, api.ErrInvalid)
	}
}

// TestBuildPackets checks in P20.2 that Build stops at the cap in packets, for each cap and each number of lengths.
func TestBuildPackets(t *testing.T) {
	for packets := 1; packets <= mostPackets; packets++ {
		for n := 1; n <= mostCandidates; n++ {
			count := min(n, packets)
			checkBuild(t, flat(n, 10), caps(packets, mostBytes, mostAirtime), plain, count, 14*int64(count)-4, api.OK)
			checkBuild(t, flat(n, mostLength), caps(packets, mostBytes, mostAirtime), plain, count, 4100*int64(count)-4, api.OK)
		}
	}
}

// TestBuildBytes checks in P20.2 that Build stops at the cap in bytes: each number of packets fits exactly, and does not if a byte is missing.
func TestBuildBytes(t *testing.T) {
	for n := 1; n <= mostPackets; n++ {
		for _, length := range []int{1, 2, 3, 10, 1500, 4095, mostLength} {
			l := flat(n+1, length)
			size := (length+4)*n - 4
			time := int64(size)
			checkBuild(t, l, caps(min(n+1, mostPackets), size, mostAirtime), plain, n, time, api.OK)
			checkBuild(t, l[:n], caps(n, size, mostAirtime), plain, n, time, api.OK)
			// The separator alone does not make room for another packet.
			checkBuild(t, l, caps(mostPackets, size+4, mostAirtime), plain, n, time, api.OK)
			if n < mostPackets {
				checkBuild(t, l, caps(mostPackets, size+length+3, mostAirtime), plain, n, time, api.OK)
				checkBuild(t, l, caps(mostPackets, size+length+4, mostAirtime), plain, n+1, time+int64(length)+4, api.OK)
			}
			if n > 1 {
				checkBuild(t, l, caps(n, size-1, mostAirtime), plain, n-1, time-int64(length)-4, api.OK)
			} else if size > 1 {
				checkBuild(t, l, caps(n, size-1, mostAirtime), plain, 0, 0, api.OK)
			}
		}
	}
}

// TestBuildAirtime checks in P20.2 that Build stops at the cap in time: each number of packets fits exactly, and does not if a microsecond is missing.
func TestBuildAirtime(t *testing.T) {
	for _, r := range goodRates {
		for n := 1; n <= mostPackets; n++ {
			for _, length := range []int{1, 2, 3, 10, 1500, 4095, mostLength} {
				l := flat(n+1, length)
				time := timeOf(r, (length+4)*n-4)
				if time > mostAirtime || time == timeOf(r, (length+4)*(n+1)-4) {
					continue
				}
				checkBuild(t, l, caps(mostPackets, mostBytes, time), r, n, time, api.OK)
				checkBuild(t, l[:n], caps(n, mostBytes, time), r, n, time, api.OK)
				before := timeOf(r, (length+4)*(n-1)-4)
				switch {
				case n == 1 && time > 1:
					checkBuild(t, l, caps(n, mostBytes, time-1), r, 0, 0, api.OK)
				case n > 1 && before < time:
					checkBuild(t, l, caps(n, mostBytes, time-1), r, n-1, before, api.OK)
				}
			}
		}
	}
}

// TestBuildTimes checks the time of Build in P20.2 with numbers that are written out: the overhead counts once, and the time is rounded up once.
func TestBuildTimes(t *testing.T) {
	checkBuild(t, []int{100, 200, 300}, wide, api.Rate{Kbps: 8000, Overhead: 50}, 3, 658, api.OK)
	checkBuild(t, []int{100, 200, 300}, caps(32, mostBytes, 657), api.Rate{Kbps: 8000, Overhead: 50}, 2, 354, api.OK)
	checkBuild(t, []int{100, 200, 300}, caps(32, mostBytes, 354), api.Rate{Kbps: 8000, Overhead: 50}, 2, 354, api.OK)
	checkBuild(t, []int{100, 200, 300}, caps(32, mostBytes, 353), api.Rate{Kbps: 8000, Overhead: 50}, 1, 150, api.OK)
	checkBuild(t, []int{100, 200, 300}, caps(32, mostBytes, 150), api.Rate{Kbps: 8000, Overhead: 50}, 1, 150, api.OK)
	checkBuild(t, []int{100, 200, 300}, caps(32, mostBytes, 149), api.Rate{Kbps: 8000, Overhead: 50}, 0, 0, api.OK)
	// 4 / 3 microseconds for each byte: 1, 6 and 11 bytes take 2, 8 and 15.
	checkBuild(t, flat(3, 1), caps(32, mostBytes, 15), api.Rate{Kbps: 6000}, 3, 15, api.OK)
	checkBuild(t, flat(3, 1), caps(32, mostBytes, 14), api.Rate{Kbps: 6000}, 2, 8, api.OK)
	checkBuild(t, flat(3, 1), caps(32, mostBytes, 7), api.Rate{Kbps: 6000}, 1, 2, api.OK)
	checkBuild(t, flat(3, 1), caps(32, mostBytes, 1), api.Rate{Kbps: 6000}, 0, 0, api.OK)
	// All packets of the greatest length: 131196 bytes take 104.9568 microseconds.
	checkBuild(t, flat(mostCandidates, mostLength), wide, api.Rate{Kbps: fastest}, 32, 105, api.OK)
	checkBuild(t, flat(mostCandidates, mostLength), wide, api.Rate{Kbps: fastest, Overhead: dearest}, 32, 100105, api.OK)
	checkBuild(t, flat(mostCandidates, mostLength), wide, plain, 32, 131196, api.OK)
	// Equal times: 1250 bytes and less take one microsecond.
	checkBuild(t, flat(4, 400), caps(32, mostBytes, 1), api.Rate{Kbps: fastest}, 3, 1, api.OK)
	checkBuild(t, []int{400, 400, 442, 1}, caps(32, mostBytes, 1), api.Rate{Kbps: fastest}, 3, 1, api.OK)
	checkBuild(t, []int{400, 400, 443, 1}, caps(32, mostBytes, 1), api.Rate{Kbps: fastest}, 2, 1, api.OK)
	// At the slowest rate, 131 bytes take 1048000 microseconds.
	checkBuild(t, []int{131}, wide, api.Rate{Kbps: 1}, 1, 1048000, api.OK)
	checkBuild(t, []int{132}, wide, api.Rate{Kbps: 1}, 0, 0, api.OK)
	checkBuild(t, []int{100, 27, 1}, wide, api.Rate{Kbps: 1}, 2, 1048000, api.OK)
	checkBuild(t, []int{100, 28, 1}, wide, api.Rate{Kbps: 1}, 1, 800000, api.OK)
	checkBuild(t, []int{131}, wide, api.Rate{Kbps: 1, Overhead: 576}, 1, 1048576, api.OK)
	checkBuild(t, []int{131}, wide, api.Rate{Kbps: 1, Overhead: 577}, 0, 0, api.OK)
}

// TestBuildFirst checks in P20.2 that nothing is built if the first packet does not fit, and that no packet is skipped.
func TestBuildFirst(t *testing.T) {
	checkBuild(t, []int{100}, caps(1, 99, 1000), plain, 0, 0, api.OK)
	checkBuild(t, []int{100}, caps(1, 100, 100), plain, 1, 100, api.OK)
	checkBuild(t, []int{100}, caps(1, 1000, 99), plain, 0, 0, api.OK)
	checkBuild(t, []int{100, 1, 1}, caps(8, 99, 1000), plain, 0, 0, api.OK)
	checkBuild(t, []int{100, 1, 1}, caps(8, 1000, 99), plain, 0, 0, api.OK)
	checkBuild(t, []int{100, 2000, 1}, caps(8, 1000, 100000), plain, 1, 100, api.OK)
	checkBuild(t, []int{100, 2000, 1}, caps(8, 100000, 1000), plain, 1, 100, api.OK)
	// Where the overhead alone is too long, nothing fits.
	checkBuild(t, []int{1, 1}, caps(8, 1000, 99), api.Rate{Kbps: fastest, Overhead: 100}, 0, 0, api.OK)
	checkBuild(t, []int{1, 1}, caps(8, 1000, 100), api.Rate{Kbps: fastest, Overhead: 100}, 0, 0, api.OK)
	checkBuild(t, []int{1, 1}, caps(8, 1000, 101), api.Rate{Kbps: fastest, Overhead: 100}, 2, 101, api.OK)
	// A long packet at each place ends the aggregate before it.
	for n := 2; n <= mostPackets; n++ {
		for i := 1; i < n; i++ {
			checkBuild(t, with(flat(n, 10), i, mostLength), caps(mostPackets, 4000, mostAirtime), plain, i, 14*int64(i)-4, api.OK)
			checkBuild(t, with(flat(n, 10), i, mostLength), caps(mostPackets, mostBytes, 4000), plain, i, 14*int64(i)-4, api.OK)
		}
	}
}

// TestBuildErrors checks the errors of P20.2 and their order.
func TestBuildErrors(t *testing.T) {
	check := func(lengths []int, c api.Caps, r api.Rate, want api.Errno) {
		t.Helper()
		checkBuild(t, lengths, c, r, 0, 0, want)
	}
	for _, c := range valid() {
		check(nil, c, plain, api.ErrEmpty)
		check([]int{}, c, plain, api.ErrEmpty)
	}
	for _, r := range goodRates {
		check(nil, wide, r, api.ErrEmpty)
	}
	lists := [][]int{nil, {}, {100}, {100, 200, 300}, {0}, flat(32, 1), flat(33, 1), flat(128, 10), flat(129, 10)}
	for _, c := range invalid() {
		for _, l := range lists {
			check(l, c, plain, api.ErrInvalid)
		}
	}
	for _, r := range invalidRates() {
		for _, l := range lists {
			check(l, wide, r, api.ErrInvalid)
			check(l, caps(1, 1, 1), r, api.ErrInvalid)
			check(l, api.Caps{}, r, api.ErrInvalid)
		}
	}
	for _, n := range []int{129, 130, 192, 256, 257, 384, 1 << 16, 1<<16 + 1} {
		check(flat(n, 10), wide, plain, api.ErrInvalid)
		check(flat(n, 10), caps(1, 1, 1), plain, api.ErrInvalid)
	}
}

// TestBuildBadLengths checks that Build finds a bad length at each place, also behind the packets that are permitted.
func TestBuildBadLengths(t *testing.T) {
	for _, bad := range badLengths {
		for _, n := range []int{1, 2, 31, 32, 33, 64, 127, 128, 129} {
			for i := range n {
				checkBuild(t, with(flat(n, 10), i, int(bad)), wide, plain, 0, 0, api.ErrInvalid)
				checkBuild(t, with(flat(n, 10), i, int(bad)), caps(1, 9, 1), plain, 0, 0, api.ErrInvalid)
			}
		}
	}
}

// TestPermitted checks P20.3: aggregates that fill each cap exactly or exceed it by one.
func TestPermitted(t *testing.T) {
	for n := 1; n <= mostPackets; n++ {
		for _, length := range []int{1, 10, 1500, mostLength} {
			l := flat(n, length)
			size := (length+4)*n - 4
			time := int64(size)
			checkPermitted(t, l, wide, plain, true)
			checkPermitted(t, l, caps(n, size, time), plain, true)
			checkPermitted(t, l, caps(n, size-1, mostAirtime), plain, false)
			checkPermitted(t, l, caps(n, mostBytes, time-1), plain, false)
			checkPermitted(t, l, caps(n-1, mostBytes, mostAirtime), plain, false)
			checkPermitted(t, l, caps(n, size, time), api.Rate{Kbps: 7999}, false)
			checkPermitted(t, l, caps(n, size, time), api.Rate{Kbps: 8000, Overhead: 1}, false)
			checkPermitted(t, l, caps(n, size, time+1), api.Rate{Kbps: 8000, Overhead: 1}, true)
		}
	}
	// A packet before which there is no room is not skipped.
	checkPermitted(t, []int{100, 200, 300}, caps(2, 1000, 100000), plain, false)
	checkPermitted(t, []int{100, 200}, caps(2, 1000, 100000), plain, true)
	checkPermitted(t, []int{100, 200}, caps(8, 303, 100000), plain, false)
	checkPermitted(t, []int{100, 200}, caps(8, 304, 100000), plain, true)
}

// TestNotPermitted checks P20.3 with what is no aggregate and with caps and rates that are not valid.
func TestNotPermitted(t *testing.T) {
	for _, l := range [][]int{nil, {}, {0}, {-1}, {mostLength + 1}, {10, 0}, {0, 10}, {-4, 100}, {100, -100}, flat(33, 1), flat(64, 1), flat(129, 1), flat(288, 1)} {
		for _, c := range valid() {
			checkPermitted(t, l, c, plain, false)
		}
		for _, r := range goodRates {
			checkPermitted(t, l, wide, r, false)
		}
	}
	for _, bad := range badLengths {
		for n := 1; n <= mostPackets; n++ {
			for i := range n {
				checkPermitted(t, with(flat(n, 10), i, int(bad)), wide, plain, false)
			}
		}
	}
	for _, l := range [][]int{nil, {1}, {100}, {100, 200}, flat(32, 1)} {
		for _, c := range invalid() {
			checkPermitted(t, l, c, plain, false)
		}
		for _, r := range invalidRates() {
			checkPermitted(t, l, wide, r, false)
		}
	}
}

// TestMost checks P20.4 but for its errors with numbers that are written out.
func TestMost(t *testing.T) {
	// The cap in packets: n packets of the greatest length with what lies between them.
	for packets := 1; packets <= mostPackets; packets++ {
		checkMost(t, caps(packets, mostBytes, mostAirtime), plain, 4100*int64(packets)-4, api.OK)
		checkMost(t, caps(packets, 4100*packets-4, mostAirtime), plain, 4100*int64(packets)-4, api.OK)
		checkMost(t, caps(packets, 4100*packets-5, mostAirtime), plain, 4100*int64(packets)-5, api.OK)
		checkMost(t, caps(packets, mostBytes, 4100*int64(packets)-5), plain, 4100*int64(packets)-5, api.OK)
	}
	// The cap in bytes.
	checkMost(t, caps(1, 1, mostAirtime), plain, 1, api.OK)
	checkMost(t, caps(32, 1, mostAirtime), plain, 1, api.OK)
	checkMost(t, caps(32, 350, mostAirtime), plain, 350, api.OK)
	checkMost(t, caps(32, 350, mostAirtime), api.Rate{Kbps: 6000, Overhead: 10}, 477, api.OK)
	checkMost(t, caps(1, 5000, mostAirtime), plain, 4096, api.OK)
	// The cap in time: a byte takes 4 / 3 microseconds, so that no number of bytes takes 9 of them.
	checkMost(t, caps(32, mostBytes, 7), plain, 7, api.OK)
	checkMost(t, caps(32, mostBytes, 7), api.Rate{Kbps: 6000}, 7, api.OK)
	checkMost(t, caps(32, mostBytes, 8), api.Rate{Kbps: 6000}, 8, api.OK)
	checkMost(t, caps(32, mostBytes, 9), api.Rate{Kbps: 6000}, 8, api.OK)
	checkMost(t, caps(32, mostBytes, 10), api.Rate{Kbps: 6000}, 10, api.OK)
	checkMost(t, caps(32, mostBytes, 109), api.Rate{Kbps: 6000, Overhead: 100}, 108, api.OK)
	checkMost(t, wide, api.Rate{Kbps: 1}, 1048000, api.OK)
	checkMost(t, caps(32, mostBytes, 1047999), api.Rate{Kbps: 1}, 1040000, api.OK)
	checkMost(t, caps(32, 130, mostAirtime), api.Rate{Kbps: 1}, 1040000, api.OK)
	checkMost(t, wide, api.Rate{Kbps: fastest}, 105, api.OK)
	checkMost(t, wide, api.Rate{Kbps: fastest, Overhead: dearest}, 100105, api.OK)
	checkMost(t, caps(32, mostBytes, 100104), api.Rate{Kbps: fastest, Overhead: dearest}, 100104, api.OK)
	// If no byte fits, the overhead is left.
	checkMost(t, wide, api.Rate{Kbps: 1, Overhead: dearest}, 1044000, api.OK)
	checkMost(t, caps(32, mostBytes, 7999), api.Rate{Kbps: 1}, 0, api.OK)
	checkMost(t, caps(32, mostBytes, 8000), api.Rate{Kbps: 1}, 8000, api.OK)
	checkMost(t, caps(32, mostBytes, 100), api.Rate{Kbps: fastest, Overhead: 100}, 100, api.OK)
	checkMost(t, caps(32, mostBytes, 8099), api.Rate{Kbps: 1, Overhead: 100}, 100, api.OK)
}

// TestMostErrors checks the errors of P20.4 and their order.
func TestMostErrors(t *testing.T) {
	for _, r := range goodRates {
		for _, less := range []int64{1, 2, 100, 50000, 99999} {
			if r.Overhead > less {
				checkMost(t, caps(32, mostBytes, r.Overhead-less), r, 0, api.ErrRange)
				checkMost(t, caps(1, 1, r.Overhead-less), r, 0, api.ErrRange)
				checkMost(t, caps(0, 1, r.Overhead-less), r, 0, api.ErrInvalid)
				checkMost(t, caps(1, 0, r.Overhead-less), r, 0, api.ErrInvalid)
			}
		}
	}
	checkMost(t, caps(1, 1, 1), api.Rate{Kbps: 1, Overhead: 2}, 0, api.ErrRange)
	checkMost(t, caps(1, 1, 1), api.Rate{Kbps: 1, Overhead: 1}, 1, api.OK)
	for _, c := range invalid() {
		for _, r := range goodRates {
			checkMost(t, c, r, 0, api.ErrInvalid)
		}
	}
	for _, r := range invalidRates() {
		checkMost(t, wide, r, 0, api.ErrInvalid)
		checkMost(t, caps(1, 1, 1), r, 0, api.ErrInvalid)
		checkMost(t, api.Caps{}, r, 0, api.ErrInvalid)
	}
}

// TestCaps compares Most with its second wording for all caps and rates above.
func TestCaps(t *testing.T) {
	for _, c := range valid() {
		for _, r := range goodRates {
			checkCaps(t, c, r)
		}
	}
}

// TestShortLists compares Size, Build and Permitted with their second wordings for all lists of up to five of five lengths, of which one is bad.
func TestShortLists(t *testing.T) {
	var all []api.Caps
	for _, packets := range []int{0, 1, 2, 3, 4, 5} {
		all = append(all, caps(packets, 20, 100))
	}
	for _, bytes := range []int{0, 1, 5, 6, 10, 11, 15, 16, 17} {
		all = append(all, caps(32, bytes, 100))
	}
	for _, airtime := range []int64{0, 1, 5, 6, 7, 11, 15, 16, 17} {
		all = append(all, caps(32, 100, airtime), caps(3, 14, airtime))
	}
	rates := []api.Rate{plain, {Kbps: 6000}, {Kbps: 8000, Overhead: 2}, {}}
	var grow func(l []int)
	grow = func(l []int) {
		for _, c := range all {
			for _, r := range rates {
				checkList(t, l, c, r)
			}
		}
		if len(l) == 5 {
			return
		}
		for _, length := range []int{1, 2, 5, 10, 0} {
			grow(append(slices.Clone(l), length))
		}
	}
	grow(nil)
}

// randomNumber returns a number from 1 to most, mostly a small one.
func randomNumber(source *rand.Rand, most int64) int64 {
	return 1 + source.Int64N((most-1)>>source.IntN(20)+1)
}

// randomRate returns a valid rate.
func randomRate(source *rand.Rand) api.Rate {
	return api.Rate{Kbps: randomNumber(source, fastest), Overhead: randomNumber(source, dearest+1) - 1}
}

// randomCaps returns valid caps.
func randomCaps(source *rand.Rand) api.Caps {
	c := caps(1+source.IntN(mostPackets), int(randomNumber(source, mostBytes)), randomNumber(source, mostAirtime))
	// Two of the caps are often as great as possible, so that the third one decides.
	if source.IntN(2) == 0 {
		c.Bytes = mostBytes
	}
	if source.IntN(2) == 0 {
		c.Airtime = mostAirtime
	}
	return c
}

// randomList returns up to most lengths.
func randomList(source *rand.Rand, most int) []int {
	limit := randomNumber(source, mostLength)
	var out []int
	for range source.IntN(most + 1) {
		out = append(out, 1+source.IntN(int(limit)))
	}
	return out
}

// TestRandom compares all functions with their second wordings, also with one thing that is not valid.
func TestRandom(t *testing.T) {
	source := rand.New(rand.NewPCG(201, 202))
	bad, badRates := invalid(), invalidRates()
	built := map[int]int{}
	for range 30000 {
		r, c := randomRate(source), randomCaps(source)
		checkCaps(t, c, r)
		l := randomList(source, mostCandidates+2)
		short := l[:min(len(l), source.IntN(mostPackets+2))]
		checkList(t, l, c, r)
		checkList(t, short, c, r)
		n, _, _ := wantBuild(l, c, r)
		built[n]++
		switch source.IntN(3) {
		case 0:
			c = bad[source.IntN(len(bad))]
		case 1:
			r = badRates[source.IntN(len(badRates))]
		default:
			if len(l) > 0 {
				l[source.IntN(len(l))] = int(badLengths[source.IntN(len(badLengths))])
			}
		}
		checkList(t, l, c, r)
		checkCaps(t, c, r)
	}
	for n := range mostPackets + 1 {
		if built[n] < 20 {
			t.Errorf("only %d aggregates of %d packets", built[n], n)
		}
	}
}

// TestBeginnings checks the first consequence with the program's own results: with an aggregate, all its beginnings are permitted; and Build returns the longest one.
func TestBeginnings(t *testing.T) {
	source := rand.New(rand.NewPCG(203, 204))
	yes, no := 0, 0
	for range 30000 {
		r, c, l := randomRate(source), randomCaps(source), randomList(source, mostPackets)
		if len(l) == 0 {
			continue
		}
		count, time, err := aggregate.Build(l, c, r)
		if err != api.OK {
			t.Fatalf("Build(%v, %v, %v) = %d, %d, %d", l, c, r, count, time, err)
		}
		for n := 1; n <= len(l); n++ {
			checkPermitted(t, l[:n], c, r, n <= count)
			if n <= count {
				yes++
			} else {
				no++
			}
		}
	}
	if yes < 10000 || no < 10000 {
		t.Errorf("%d beginnings are permitted, %d are not", yes, no)
	}
}

// filled returns the lengths of an aggregate of a size, with as few packets as possible.
func filled(size int) []int {
	packets := (size + 4 + mostLength + 3) / (mostLength + 4)
	out := flat(packets, 1)
	left := size - 4*(packets-1) - packets
	for i := range out {
		more := min(left, mostLength-1)
		out[i] += more
		left -= more
	}
	return out
}

// TestMostReached checks the second consequence with the program's own results: no permitted aggregate takes longer than Most, and if a byte fits, one takes as long.
func TestMostReached(t *testing.T) {
	source := rand.New(rand.NewPCG(205, 206))
	reached := 0
	for range 30000 {
		r, c := randomRate(source), randomCaps(source)
		most, err := aggregate.Most(c, r)
		// If even the overhead takes too long, then so does each aggregate.
		if err == api.ErrRange {
			checkPermitted(t, []int{1}, c, r, false)
			continue
		}
		if err != api.OK || most > c.Airtime || most < r.Overhead {
			t.Errorf("Most(%v, %v) = %d, %d", c, r, most, err)
		}
		l := randomList(source, mostCandidates)
		if count, time, _ := aggregate.Build(l, c, r); count > 0 && time > most {
			t.Errorf("Build(%v, %v, %v) = %d, %d, but Most is %d", l, c, r, count, time, most)
		}
		size := mostSize(c, r)
		if size == 0 {
			checkPermitted(t, []int{1}, c, r, false)
			continue
		}
		reached++
		longest := filled(size)
		checkSize(t, longest, size, api.OK)
		checkPermitted(t, longest, c, r, true)
		checkBuild(t, longest, c, r, len(longest), most, api.OK)
	}
	if reached < 10000 {
		t.Errorf("Most is reached in only %d cases", reached)
	}
}

// TestArguments checks that the lengths and what lies behind their end are not changed, and that the latter is not read.
func TestArguments(t *testing.T) {
	for _, l := range [][]int{{}, {100}, {100, 200, 300}, {100, 0}, flat(31, 7), flat(32, 7), flat(33, 7), flat(128, 7), flat(129, 7)} {
		for _, end := range []int{-1, 1} {
			for _, c := range []api.Caps{wide, caps(2, 1000, 100000), caps(32, 350, 100000), {}} {
				behind := append(slices.Clone(l), end, end)
				given := behind[:len(l)]
				checkList(t, given, c, plain)
				if !slices.Equal(given, l) || !slices.Equal(behind[len(l):], []int{end, end}) {
					t.Errorf("%v has become %v", l, behind)
				}
			}
		}
	}
}

// TestRepeated checks P2: the results depend only on the arguments, in whatever order the calls are made.
func TestRepeated(t *testing.T) {
	type call struct {
		l []int
		c api.Caps
		r api.Rate
	}
	run := func(c call) (out []any) {
		size, err1 := aggregate.Size(c.l)
		n, time, err2 := aggregate.Build(c.l, c.c, c.r)
		most, err3 := aggregate.Most(c.c, c.r)
		return append(out, aggregate.Valid(c.c), size, err1, n, time, err2, aggregate.Permitted(c.l, c.c, c.r), most, err3)
	}
	source := rand.New(rand.NewPCG(207, 208))
	bad, badRates := invalid(), invalidRates()
	var calls []call
	var want [][]any
	for i := range 1000 {
		c := call{randomList(source, mostPackets+8), randomCaps(source), randomRate(source)}
		switch i % 9 {
		case 0:
			c.c = bad[source.IntN(len(bad))]
		case 1:
			c.r = badRates[source.IntN(len(badRates))]
		case 2:
			c.l = append(c.l, 0)
		}
		calls = append(calls, c)
		want = append(want, run(c))
	}
	for _, i := range source.Perm(len(calls)) {
		if got := run(calls[i]); !reflect.DeepEqual(got, want[i]) {
			t.Errorf("%+v: %v, and before %v", calls[i], got, want[i])
		}
	}
}
