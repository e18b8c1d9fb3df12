package wide_test

import (
	"math/big"
	"testing"

	"airshare/api"
	"airshare/wide"
)

const top = 1<<64 - 1

// edges are numbers at which a carry, a borrow, a half or a sign bit changes.
var edges = []uint64{
	0, 1, 2, 3, 6, 10,
	api.Scale, api.MaxTag,
	1<<31 - 1, 1 << 31,
	1<<32 - 2, 1<<32 - 1, 1 << 32, 1<<32 + 1,
	1<<63 - 1, 1 << 63, 1<<63 + 1,
	1<<63 + 1<<32 - 1, 1<<64 - 1<<32, 1<<64 - 1<<32 - 1,
	top - 1, top,
}

// numbers calls visit with n numbers of very different sizes, which are the same in each run.
func numbers(n int, visit func(next func() uint64)) {
	state := uint64(1)
	next := func() uint64 {
		state += 0x9e3779b97f4a7c15
		z := (state ^ state>>30) * 0xbf58476d1ce4e5b9
		z = (z ^ z>>27) * 0x94d049bb133111eb
		z ^= z >> 31
		return z >> (z & 63) << (z >> 6 & 7)
	}
	for range n {
		visit(next)
	}
}

func bigOf(x uint64) *big.Int { return new(big.Int).SetUint64(x) }

func bigWide(x api.Wide) *big.Int {
	n := bigOf(x.Hi)
	return n.Lsh(n, 64).Add(n, bigOf(x.Lo))
}

func product(a, b uint64) *big.Int { return new(big.Int).Mul(bigOf(a), bigOf(b)) }

func checkMul(t *testing.T, a, b uint64) {
	t.Helper()
	if got, want := wide.Mul(a, b), product(a, b); bigWide(got).Cmp(want) != 0 {
		t.Errorf("Mul(%#x, %#x) = %#x, want %#x", a, b, got, want)
	}
}

func checkAdd(t *testing.T, x api.Wide, y uint64) {
	t.Helper()
	want := new(big.Int).Add(bigWide(x), bigOf(y))
	wantOver := want.Bit(128) == 1
	want.SetBit(want, 128, 0)
	got, over := wide.Add(x, y)
	if bigWide(got).Cmp(want) != 0 || over != wantOver {
		t.Errorf("Add(%#x, %#x) = %#x, %v, want %#x, %v", x, y, got, over, want, wantOver)
	}
}

// wantDiv returns what Div has to return for x and d.
func wantDiv(x api.Wide, d uint64) (uint64, uint64, api.Errno) {
	if d == 0 {
		return 0, 0, api.ErrDivide
	}
	q, r := new(big.Int).QuoRem(bigWide(x), bigOf(d), new(big.Int))
	if q.BitLen() > 64 {
		return 0, 0, api.ErrRange
	}
	return q.Uint64(), r.Uint64(), api.OK
}

// checkDiv also checks the first consequence of the chapter.
func checkDiv(t *testing.T, x api.Wide, d uint64) {
	t.Helper()
	q, r, e := wide.Div(x, d)
	if wantQ, wantR, wantE := wantDiv(x, d); q != wantQ || r != wantR || e != wantE {
		t.Errorf("Div(%#x, %#x) = %#x, %#x, %d, want %#x, %#x, %d", x, d, q, r, e, wantQ, wantR, wantE)
	}
	if e != api.OK {
		return
	}
	if back, over := wide.Add(wide.Mul(q, d), r); back != x || over || r >= d {
		t.Errorf("Div(%#x, %#x) = %#x, %#x: the sum is %#x, %v", x, d, q, r, back, over)
	}
}

// checkBack checks the second consequence of the chapter.
func checkBack(t *testing.T, a, b uint64) {
	t.Helper()
	wantQ, wantE := a, api.OK
	if b == 0 {
		wantQ, wantE = 0, api.ErrDivide
	}
	if q, r, e := wide.Div(wide.Mul(a, b), b); q != wantQ || r != 0 || e != wantE {
		t.Errorf("Div(Mul(%#x, %#x), %#x) = %#x, %#x, %d", a, b, b, q, r, e)
	}
}

func checkLess(t *testing.T, x, y api.Wide) {
	t.Helper()
	if got, want := wide.Less(x, y), bigWide(x).Cmp(bigWide(y)) < 0; got != want {
		t.Errorf("Less(%#x, %#x) = %v, want %v", x, y, got, want)
	}
}

func checkCross(t *testing.T, a, b, c, d uint64) {
	t.Helper()
	if got, want := wide.Cross(a, b, c, d), product(a, b).Cmp(product(c, d)); got != want {
		t.Errorf("Cross(%#x, %#x, %#x, %#x) = %d, want %d", a, b, c, d, got, want)
	}
}

func TestMul(t *testing.T) {
	if got, want := wide.Mul(1<<63, 6), (api.Wide{Hi: 3}); got != want {
		t.Errorf("example 1: got %#x, want %#x", got, want)
	}
	if got, want := wide.Mul(top, top), (api.Wide{Hi: top - 1, Lo: 1}); got != want {
		t.Errorf("greatest product: got %#x, want %#x", got, want)
	}
	for _, a := range edges {
		for _, b := range edges {
			checkMul(t, a, b)
			checkBack(t, a, b)
		}
	}
	numbers(20000, func(next func() uint64) {
		a, b := next(), next()
		checkMul(t, a, b)
		checkBack(t, a, b)
	})
}

func TestAdd(t *testing.T) {
	cases := []struct {
		x    api.Wide
		y    uint64
		sum  api.Wide
		over bool
	}{
		{api.Wide{Lo: 2}, 3, api.Wide{Lo: 5}, false},
		{api.Wide{Lo: top}, 1, api.Wide{Hi: 1}, false},
		{api.Wide{Hi: top, Lo: top}, 0, api.Wide{Hi: top, Lo: top}, false},
		{api.Wide{Hi: top, Lo: top - 1}, 1, api.Wide{Hi: top, Lo: top}, false},
		{api.Wide{Hi: top, Lo: top}, 1, api.Wide{}, true},
		{api.Wide{Hi: top, Lo: top}, top, api.Wide{Lo: top - 1}, true},
	}
	for _, c := range cases {
		if sum, over := wide.Add(c.x, c.y); sum != c.sum || over != c.over {
			t.Errorf("Add(%#x, %#x) = %#x, %v, want %#x, %v", c.x, c.y, sum, over, c.sum, c.over)
		}
	}
	for _, hi := range edges {
		for _, lo := range edges {
			for _, y := range edges {
				checkAdd(t, api.Wide{Hi: hi, Lo: lo}, y)
			}
		}
	}
	numbers(20000, func(next func() uint64) { checkAdd(t, api.Wide{Hi: next(), Lo: next()}, next()) })
}

func TestDiv(t *testing.T) {
	cases := []struct {
		x    api.Wide
		d    uint64
		q, r uint64
	}{
		{api.Wide{Hi: 3, Lo: 5}, 6, 1 << 63, 5},
		{api.Wide{}, 1, 0, 0},
		{api.Wide{Lo: 7}, 8, 0, 7},
		{api.Wide{Lo: top}, 1, top, 0},
		{api.Wide{Hi: top - 1, Lo: top}, top, top, top - 1},
	}
	for _, c := range cases {
		if q, r, e := wide.Div(c.x, c.d); q != c.q || r != c.r || e != api.OK {
			t.Errorf("Div(%#x, %#x) = %#x, %#x, %d, want %#x, %#x, 0", c.x, c.d, q, r, e, c.q, c.r)
		}
	}
	for _, hi := range edges {
		for _, lo := range edges {
			for _, d := range edges {
				checkDiv(t, api.Wide{Hi: hi, Lo: lo}, d)
			}
		}
	}
	numbers(50000, func(next func() uint64) { checkDiv(t, api.Wide{Hi: next(), Lo: next()}, next()) })
	// Most quotients above do not fit; these do.
	numbers(50000, func(next func() uint64) {
		d := next() | 1
		checkDiv(t, api.Wide{Hi: next() % d, Lo: next()}, d)
	})
}

// TestDivCorrected divides by numbers for which the quotient of the upper halves is too great by 1 or 2.
func TestDivCorrected(t *testing.T) {
	for _, high := range []uint64{1 << 31, 1<<31 + 1, 1<<32 - 2, 1<<32 - 1} {
		for _, low := range []uint64{0, 1, 1 << 31, 1<<32 - 2, 1<<32 - 1} {
			d := high<<32 | low
			for k := range uint64(4) {
				for _, q := range []uint64{1, 1<<32 - 1, 1 << 32, 1<<32 + 1, 1<<63 - 1, 1 << 63, top - 1, top} {
					checkBack(t, q, d-k)
					x, _ := wide.Add(wide.Mul(q, d-k), d-k-1)
					checkDiv(t, x, d-k)
				}
				checkDiv(t, api.Wide{Hi: d - 1 - k, Lo: 0}, d)
				checkDiv(t, api.Wide{Hi: d - 1 - k, Lo: top}, d)
			}
		}
	}
}

func TestDivErrors(t *testing.T) {
	cases := []struct {
		x api.Wide
		d uint64
		e api.Errno
	}{
		{api.Wide{Hi: 6}, 6, api.ErrRange},
		{api.Wide{Hi: 7, Lo: 1}, 6, api.ErrRange},
		{api.Wide{Hi: 1}, 1, api.ErrRange},
		{api.Wide{Hi: top, Lo: top}, top, api.ErrRange},
		{api.Wide{}, 0, api.ErrDivide},
		{api.Wide{Lo: 5}, 0, api.ErrDivide},
		// ErrRange would apply to these as well, but ErrDivide comes first.
		{api.Wide{Hi: 6}, 0, api.ErrDivide},
		{api.Wide{Hi: top, Lo: top}, 0, api.ErrDivide},
	}
	for _, c := range cases {
		if q, r, e := wide.Div(c.x, c.d); q != 0 || r != 0 || e != c.e {
			t.Errorf("Div(%#x, %#x) = %#x, %#x, %d, want 0, 0, %d", c.x, c.d, q, r, e, c.e)
		}
	}
}

func TestLess(t *testing.T) {
	cases := []struct {
		x, y api.Wide
		want bool
	}{
		{api.Wide{Lo: 9}, api.Wide{Hi: 1}, true},
		{api.Wide{Hi: 1}, api.Wide{Lo: 9}, false},
		{api.Wide{Hi: 1, Lo: 9}, api.Wide{Hi: 2, Lo: 3}, true},
		{api.Wide{Hi: 2, Lo: 3}, api.Wide{Hi: 1, Lo: 9}, false},
		{api.Wide{Hi: 1, Lo: 2}, api.Wide{Hi: 1, Lo: 3}, true},
		{api.Wide{Hi: 1, Lo: 3}, api.Wide{Hi: 1, Lo: 3}, false},
		{api.Wide{}, api.Wide{Hi: top}, true},
	}
	for _, c := range cases {
		if got := wide.Less(c.x, c.y); got != c.want {
			t.Errorf("Less(%#x, %#x) = %v, want %v", c.x, c.y, got, c.want)
		}
	}
	for _, a := range edges {
		for _, b := range edges {
			for _, c := range edges {
				for _, d := range edges {
					checkLess(t, api.Wide{Hi: a, Lo: b}, api.Wide{Hi: c, Lo: d})
				}
			}
		}
	}
	numbers(20000, func(next func() uint64) {
		checkLess(t, api.Wide{Hi: next(), Lo: next()}, api.Wide{Hi: next(), Lo: next()})
	})
}

func TestCross(t *testing.T) {
	cases := []struct {
		a, b, c, d uint64
		want       int
	}{
		{1 << 63, 4, 1 << 62, 8, 0},
		{1 << 63, 4, 1 << 62, 9, -1},
		{1 << 63, 5, 1 << 62, 9, 1},
		{2, 3, 6, 1, 0},
		{2, 3, 7, 1, -1},
		{2, 3, 5, 1, 1},
		{0, top, top, 0, 0},
		// The lowest 64 bits alone give another order.
		{1 << 32, 1 << 32, top, 1, 1},
		{1 << 32, 1 << 32, 0, 0, 1},
		{1, 5, 1 << 32, 1 << 32, -1},
	}
	for _, c := range cases {
		if got := wide.Cross(c.a, c.b, c.c, c.d); got != c.want {
			t.Errorf("Cross(%#x, %#x, %#x, %#x) = %d, want %d", c.a, c.b, c.c, c.d, got, c.want)
		}
	}
	for _, a := range edges {
		for _, b := range edges {
			for _, c := range edges {
				for _, d := range edges {
					checkCross(t, a, b, c, d)
				}
			}
		}
	}
	numbers(20000, func(next func() uint64) { checkCross(t, next(), next(), next(), next()) })
}

// results is what all functions return for the same three numbers.
type results struct {
	product, sum   api.Wide
	over, less     bool
	quotient, rest uint64
	err            api.Errno
	order          int
}

func resultsOf(a, b, c uint64) results {
	var r results
	x := api.Wide{Hi: a, Lo: b}
	r.product = wide.Mul(a, b)
	r.sum, r.over = wide.Add(x, c)
	r.quotient, r.rest, r.err = wide.Div(x, c)
	r.less = wide.Less(x, api.Wide{Hi: b, Lo: c})
	r.order = wide.Cross(a, b, b, c)
	return r
}

// TestRepeated checks P2: neither earlier calls nor their order matter.
func TestRepeated(t *testing.T) {
	var first []results
	n := len(edges)
	for i := range n * n * n {
		first = append(first, resultsOf(edges[i/n/n], edges[i/n%n], edges[i%n]))
	}
	for i := n*n*n - 1; i >= 0; i-- {
		a, b, c := edges[i/n/n], edges[i/n%n], edges[i%n]
		if again := resultsOf(a, b, c); again != first[i] {
			t.Errorf("%#x, %#x, %#x: got %+v first and %+v then", a, b, c, first[i], again)
		}
	}
}
