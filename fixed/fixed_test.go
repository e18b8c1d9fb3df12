package fixed_test

import (
	"math"
	"math/big"
	"math/rand/v2"
	"testing"

	"airshare/api"
	"airshare/fixed"
)

const (
	least    = math.MinInt64
	greatest = math.MaxInt64
)

// ways are the three ways of rounding, in the order of the columns of the tables below.
var ways = []int{api.RoundDown, api.RoundUp, api.RoundNear}

// notWays are no ways of rounding.
var notWays = []int{-1, 3, 4, 256, math.MinInt, math.MaxInt}

// edges are numbers at which a sign, a carry or a half changes, or beside which results no longer fit.
var edges = []int64{
	0, 1, 2, 3, 5, 6, 7, 10, api.Scale, api.MaxTag,
	1<<31 - 1, 1 << 31, 1<<32 - 1, 1 << 32, 1<<32 + 1, 1 << 62, greatest - 1, greatest,
	-1, -2, -3, -5, -7, -10, -api.Scale,
	-1 << 31, -1<<32 + 1, -1 << 32, -1<<32 - 1, -1 << 62, least + 1, least,
}

// random calls check with n functions that return numbers of either sign and very different sizes, the same in each run.
func random(n int, check func(next func() int64)) {
	source := rand.New(rand.NewPCG(1, 2))
	for range n {
		check(func() int64 { return int64(source.Uint64()) >> source.IntN(64) })
	}
}

// fit returns what a function has to return whose exact result is n.
func fit(n *big.Int) (int64, api.Errno) {
	if !n.IsInt64() {
		return 0, api.ErrRange
	}
	return n.Int64(), api.OK
}

// rounded returns x / d, rounded as the chapter defines it. It requires that d is not 0.
func rounded(x, d *big.Int, round int) *big.Int {
	if d.Sign() < 0 {
		x, d = new(big.Int).Neg(x), new(big.Int).Neg(d)
	}
	// With a positive divisor, the modulus of big is not negative either.
	down, rest := new(big.Int).DivMod(x, d, new(big.Int))
	up := new(big.Int).Set(down)
	if rest.Sign() > 0 {
		up.Add(up, big.NewInt(1))
	}
	switch round {
	case api.RoundDown:
		return down
	case api.RoundUp:
		return up
	}
	toDown := rest
	toUp := new(big.Int).Sub(new(big.Int).Mul(up, d), x)
	order := toDown.Cmp(toUp)
	if order < 0 || order == 0 && down.CmpAbs(up) > 0 {
		return down
	}
	return up
}

// wantMulDiv returns what MulDiv(a, b, c, round) has to return.
func wantMulDiv(a, b, c int64, round int) (int64, api.Errno) {
	if c == 0 {
		return 0, api.ErrDivide
	}
	product := new(big.Int).Mul(big.NewInt(a), big.NewInt(b))
	return fit(rounded(product, big.NewInt(c), round))
}

func checkSums(t *testing.T, a, b int64) {
	t.Helper()
	x, y := big.NewInt(a), big.NewInt(b)
	for _, c := range []struct {
		name string
		f    func(a, b int64) (int64, api.Errno)
		want *big.Int
	}{
		{"Add", fixed.Add, new(big.Int).Add(x, y)},
		{"Sub", fixed.Sub, new(big.Int).Sub(x, y)},
		{"Mul", fixed.Mul, new(big.Int).Mul(x, y)},
	} {
		want, wantErr := fit(c.want)
		if got, err := c.f(a, b); got != want || err != wantErr {
			t.Errorf("%s(%d, %d) = %d, %d, want %d, %d", c.name, a, b, got, err, want, wantErr)
		}
	}
}

func checkQuotient(t *testing.T, a, b int64) {
	t.Helper()
	for _, round := range ways {
		want, wantErr := wantMulDiv(a, 1, b, round)
		if got, err := fixed.Quotient(a, b, round); got != want || err != wantErr {
			t.Errorf("Quotient(%d, %d, %d) = %d, %d, want %d, %d", a, b, round, got, err, want, wantErr)
		}
	}
}

func checkMulDiv(t *testing.T, a, b, c int64) {
	t.Helper()
	for _, round := range ways {
		want, wantErr := wantMulDiv(a, b, c, round)
		if got, err := fixed.MulDiv(a, b, c, round); got != want || err != wantErr {
			t.Errorf("MulDiv(%d, %d, %d, %d) = %d, %d, want %d, %d", a, b, c, round, got, err, want, wantErr)
		}
	}
}

// checkWays checks the second consequence of the chapter for a * b / c.
func checkWays(t *testing.T, a, b, c int64) {
	t.Helper()
	down, downErr := fixed.MulDiv(a, b, c, api.RoundDown)
	up, upErr := fixed.MulDiv(a, b, c, api.RoundUp)
	if downErr != api.OK || upErr != api.OK {
		return
	}
	want := int64(1)
	product := new(big.Int).Mul(big.NewInt(a), big.NewInt(b))
	if product.Rem(product, big.NewInt(c)).Sign() == 0 {
		want = 0
	}
	if up-down != want {
		t.Errorf("MulDiv(%d, %d, %d): down %d, up %d, want a difference of %d", a, b, c, down, up, want)
	}
}

// checkBack checks the first consequence of the chapter.
func checkBack(t *testing.T, a, b int64) {
	t.Helper()
	want, wantErr := a, api.OK
	if b == 0 {
		want, wantErr = 0, api.ErrDivide
	}
	for _, round := range ways {
		if got, err := fixed.MulDiv(a, b, b, round); got != want || err != wantErr {
			t.Errorf("MulDiv(%d, %d, %d, %d) = %d, %d, want %d, %d", a, b, b, round, got, err, want, wantErr)
		}
	}
}

func checkClamp(t *testing.T, a, low, high int64) {
	t.Helper()
	want := a
	if a < low {
		want = low
	} else if a > high {
		want = high
	}
	if got, other := fixed.Clamp(a, low, high); got != want || other != (got != a) {
		t.Errorf("Clamp(%d, %d, %d) = %d, %v, want %d, %v", a, low, high, got, other, want, want != a)
	}
}

func checkSaturate(t *testing.T, a, b int64) {
	t.Helper()
	sum := new(big.Int).Add(big.NewInt(a), big.NewInt(b))
	want, wantOver := int64(least), !sum.IsInt64()
	if !wantOver {
		want = sum.Int64()
	} else if sum.Sign() > 0 {
		want = greatest
	}
	if got, over := fixed.Saturate(a, b); got != want || over != wantOver {
		t.Errorf("Saturate(%d, %d) = %d, %v, want %d, %v", a, b, got, over, want, wantOver)
	}
}

func checkRatio(t *testing.T, a, b, c, d int64) {
	t.Helper()
	want, wantErr := 0, api.ErrInvalid
	if b > 0 && d > 0 {
		want, wantErr = big.NewRat(a, b).Cmp(big.NewRat(c, d)), api.OK
	}
	if got, err := fixed.Ratio(a, b, c, d); got != want || err != wantErr {
		t.Errorf("Ratio(%d, %d, %d, %d) = %d, %d, want %d, %d", a, b, c, d, got, err, want, wantErr)
	}
}

// TestSums checks P2.1.
func TestSums(t *testing.T) {
	for _, c := range []struct {
		name string
		f    func(a, b int64) (int64, api.Errno)
		a, b int64
		want int64
		err  api.Errno
	}{
		{"Add", fixed.Add, 2, -5, -3, api.OK},
		{"Add", fixed.Add, greatest, 0, greatest, api.OK},
		{"Add", fixed.Add, greatest, 1, 0, api.ErrRange},
		{"Add", fixed.Add, greatest, greatest, 0, api.ErrRange},
		{"Add", fixed.Add, greatest, least, -1, api.OK},
		{"Add", fixed.Add, least, -1, 0, api.ErrRange},
		{"Add", fixed.Add, least, least, 0, api.ErrRange},
		{"Sub", fixed.Sub, 2, 5, -3, api.OK},
		{"Sub", fixed.Sub, least, 1, 0, api.ErrRange},
		{"Sub", fixed.Sub, greatest, -1, 0, api.ErrRange},
		{"Sub", fixed.Sub, 0, least, 0, api.ErrRange},
		{"Sub", fixed.Sub, -1, least, greatest, api.OK},
		{"Sub", fixed.Sub, least, least, 0, api.OK},
		{"Mul", fixed.Mul, -6, 7, -42, api.OK},
		{"Mul", fixed.Mul, -6, -7, 42, api.OK},
		{"Mul", fixed.Mul, 0, least, 0, api.OK},
		{"Mul", fixed.Mul, least, 1, least, api.OK},
		{"Mul", fixed.Mul, least, -1, 0, api.ErrRange},
		{"Mul", fixed.Mul, 1 << 32, -1 << 31, least, api.OK},
		{"Mul", fixed.Mul, 1 << 32, 1 << 31, 0, api.ErrRange},
		// The lowest 64 bits of these products would fit.
		{"Mul", fixed.Mul, 1 << 32, 1 << 32, 0, api.ErrRange},
		{"Mul", fixed.Mul, 1<<32 + 1, -1 << 32, 0, api.ErrRange},
		{"Mul", fixed.Mul, least, least, 0, api.ErrRange},
	} {
		if got, err := c.f(c.a, c.b); got != c.want || err != c.err {
			t.Errorf("%s(%d, %d) = %d, %d, want %d, %d", c.name, c.a, c.b, got, err, c.want, c.err)
		}
	}
	for _, a := range edges {
		for _, b := range edges {
			checkSums(t, a, b)
		}
	}
	random(20000, func(next func() int64) { checkSums(t, next(), next()) })
}

// TestQuotient checks P2.2.
func TestQuotient(t *testing.T) {
	for _, c := range []struct {
		a, b int64
		want [3]int64
	}{
		{-7, 2, [3]int64{-4, -3, -4}},
		{7, 2, [3]int64{3, 4, 4}},
		{7, -2, [3]int64{-4, -3, -4}},
		{-7, -2, [3]int64{3, 4, 4}},
		{1, 2, [3]int64{0, 1, 1}},
		{-1, 2, [3]int64{-1, 0, -1}},
		{7, 3, [3]int64{2, 3, 2}},
		{8, 3, [3]int64{2, 3, 3}},
		{-7, 3, [3]int64{-3, -2, -2}},
		{-8, 3, [3]int64{-3, -2, -3}},
		{6, -3, [3]int64{-2, -2, -2}},
		{0, -5, [3]int64{0, 0, 0}},
		{1, greatest, [3]int64{0, 1, 0}},
		{-1, greatest, [3]int64{-1, 0, 0}},
		{1, least, [3]int64{-1, 0, 0}},
		{greatest, least, [3]int64{-1, 0, -1}},
		{least, greatest, [3]int64{-2, -1, -1}},
		{1 << 62, least, [3]int64{-1, 0, -1}},
		{1<<62 - 1, least, [3]int64{-1, 0, 0}},
		{least, least, [3]int64{1, 1, 1}},
		{least, 1, [3]int64{least, least, least}},
		{greatest, -1, [3]int64{-greatest, -greatest, -greatest}},
	} {
		for i, round := range ways {
			if got, err := fixed.Quotient(c.a, c.b, round); got != c.want[i] || err != api.OK {
				t.Errorf("Quotient(%d, %d, %d) = %d, %d, want %d, 0", c.a, c.b, round, got, err, c.want[i])
			}
		}
	}
	for _, a := range edges {
		for _, b := range edges {
			checkQuotient(t, a, b)
		}
	}
	for a := int64(-40); a <= 40; a++ {
		for b := int64(-12); b <= 12; b++ {
			checkQuotient(t, a, b)
		}
	}
	random(20000, func(next func() int64) { checkQuotient(t, next(), next()) })
}

// TestMulDiv checks P2.3.
func TestMulDiv(t *testing.T) {
	for _, c := range []struct {
		a, b, c int64
		want    [3]int64
	}{
		{1 << 62, 6, 8, [3]int64{3 << 60, 3 << 60, 3 << 60}},
		{least, least, least, [3]int64{least, least, least}},
		{greatest, greatest, greatest, [3]int64{greatest, greatest, greatest}},
		// 5 * 5 / 3 and 3 * 3 / 2 differ from quotients that are rounded before the multiplication.
		{5, 5, 3, [3]int64{8, 9, 8}},
		{3, 3, 2, [3]int64{4, 5, 5}},
		{-3, 3, 2, [3]int64{-5, -4, -5}},
		{3, -3, 2, [3]int64{-5, -4, -5}},
		{3, 3, -2, [3]int64{-5, -4, -5}},
		{-3, -3, 2, [3]int64{4, 5, 5}},
		{-3, 3, -2, [3]int64{4, 5, 5}},
		{-3, -3, -2, [3]int64{-5, -4, -5}},
		{0, -3, 7, [3]int64{0, 0, 0}},
		{-1, 1, 3, [3]int64{-1, 0, 0}},
		// The divisor is 2^63, of which the rest is all but 1 here, and just 1 there.
		{greatest, 1, least, [3]int64{-1, 0, -1}},
		{greatest, greatest, least, [3]int64{-greatest, -greatest + 1, -greatest + 1}},
	} {
		for i, round := range ways {
			if got, err := fixed.MulDiv(c.a, c.b, c.c, round); got != c.want[i] || err != api.OK {
				t.Errorf("MulDiv(%d, %d, %d, %d) = %d, %d, want %d, 0", c.a, c.b, c.c, round, got, err, c.want[i])
			}
		}
	}
	for _, a := range edges {
		for _, b := range edges {
			checkBack(t, a, b)
			for _, c := range edges {
				checkMulDiv(t, a, b, c)
				checkWays(t, a, b, c)
			}
		}
	}
	random(50000, func(next func() int64) {
		a, b, c := next(), next(), next()
		checkMulDiv(t, a, b, c)
		checkWays(t, a, b, c)
		checkBack(t, a, b)
	})
}

// TestMulDivLimits divides where the way of rounding decides whether the quotient fits.
func TestMulDivLimits(t *testing.T) {
	type result struct {
		n   int64
		err api.Errno
	}
	tooGreat := result{0, api.ErrRange}
	for _, c := range []struct {
		a, b, c int64
		want    [3]result
	}{
		// 2^63 - 1/2 and its negation
		{1<<32 - 1, 1<<32 + 1, 2, [3]result{{greatest, api.OK}, tooGreat, tooGreat}},
		{1<<32 - 1, 1<<32 + 1, -2, [3]result{{least, api.OK}, {least + 1, api.OK}, {least, api.OK}}},
		// 2^63 - 2/3
		{22, 1257732550480196701, 3, [3]result{{greatest, api.OK}, tooGreat, {greatest, api.OK}}},
		// -(2^63 + 1/2)
		{274177, 67280421310721, -2, [3]result{tooGreat, {least, api.OK}, tooGreat}},
		// -(2^63 + 1/3)
		{-991975, 27893965181143, 3, [3]result{tooGreat, {least, api.OK}, {least, api.OK}}},
		// 2^63 and its negation
		{1 << 62, 4, 2, [3]result{tooGreat, tooGreat, tooGreat}},
		{1 << 62, -4, 2, [3]result{{least, api.OK}, {least, api.OK}, {least, api.OK}}},
		// 2^64 - 1/2 and its negation: rounded away from 0, they need a 65th bit
		{145295143558111, 31 * 8191, 2, [3]result{tooGreat, tooGreat, tooGreat}},
		{145295143558111, -31 * 8191, 2, [3]result{tooGreat, tooGreat, tooGreat}},
		// 2^64 and far beyond
		{1 << 62, 8, 2, [3]result{tooGreat, tooGreat, tooGreat}},
		{least, least, 1, [3]result{tooGreat, tooGreat, tooGreat}},
		{least, least, -1, [3]result{tooGreat, tooGreat, tooGreat}},
	} {
		for i, round := range ways {
			if got, err := fixed.MulDiv(c.a, c.b, c.c, round); (result{got, err}) != c.want[i] {
				t.Errorf("MulDiv(%d, %d, %d, %d) = %d, %d, want %v", c.a, c.b, c.c, round, got, err, c.want[i])
			}
		}
	}
}

// TestQuotientErrors checks the errors of Quotient and MulDiv, their order and the results beside them.
func TestQuotientErrors(t *testing.T) {
	check := func(a, b int64, round int, want api.Errno) {
		t.Helper()
		if got, err := fixed.Quotient(a, b, round); got != 0 || err != want {
			t.Errorf("Quotient(%d, %d, %d) = %d, %d, want 0, %d", a, b, round, got, err, want)
		}
		if got, err := fixed.MulDiv(a, 1, b, round); got != 0 || err != want {
			t.Errorf("MulDiv(%d, 1, %d, %d) = %d, %d, want 0, %d", a, b, round, got, err, want)
		}
	}
	for _, round := range notWays {
		check(6, 3, round, api.ErrInvalid)
		check(7, 0, round, api.ErrInvalid)
		check(least, -1, round, api.ErrInvalid)
		if got, err := fixed.MulDiv(least, least, 1, round); got != 0 || err != api.ErrInvalid {
			t.Errorf("MulDiv(least, least, 1, %d) = %d, %d, want 0, %d", round, got, err, api.ErrInvalid)
		}
	}
	for _, round := range ways {
		check(7, 0, round, api.ErrDivide)
		check(0, 0, round, api.ErrDivide)
		check(least, 0, round, api.ErrDivide)
		check(least, -1, round, api.ErrRange)
		if got, err := fixed.MulDiv(least, least, 0, round); got != 0 || err != api.ErrDivide {
			t.Errorf("MulDiv(least, least, 0, %d) = %d, %d, want 0, %d", round, got, err, api.ErrDivide)
		}
	}
}

// TestClamp checks the first half of P2.4.
func TestClamp(t *testing.T) {
	for _, c := range []struct {
		a, low, high int64
		want         int64
		other        bool
	}{
		{5, 3, 9, 5, false},
		{3, 3, 9, 3, false},
		{9, 3, 9, 9, false},
		{2, 3, 9, 3, true},
		{10, 3, 9, 9, true},
		{4, 4, 4, 4, false},
		{least, -1, 1, -1, true},
		{greatest, -1, 1, 1, true},
		{0, least, greatest, 0, false},
		// Where low is above high, low is compared first.
		{5, 9, 3, 9, true},
		{10, 9, 3, 3, true},
		{9, 9, 3, 3, true},
		{2, 9, 3, 9, true},
	} {
		if got, other := fixed.Clamp(c.a, c.low, c.high); got != c.want || other != c.other {
			t.Errorf("Clamp(%d, %d, %d) = %d, %v, want %d, %v", c.a, c.low, c.high, got, other, c.want, c.other)
		}
	}
	for _, a := range edges {
		for _, low := range edges {
			for _, high := range edges {
				checkClamp(t, a, low, high)
			}
		}
	}
}

// TestSaturate checks the second half of P2.4.
func TestSaturate(t *testing.T) {
	for _, c := range []struct {
		a, b int64
		want int64
		over bool
	}{
		{2, -5, -3, false},
		{greatest, 0, greatest, false},
		{greatest - 1, 1, greatest, false},
		{greatest, 1, greatest, true},
		{1, greatest, greatest, true},
		{greatest, greatest, greatest, true},
		{least, 0, least, false},
		{least + 1, -1, least, false},
		{least, -1, least, true},
		{-1, least, least, true},
		{least, least, least, true},
		{least, greatest, -1, false},
	} {
		if got, over := fixed.Saturate(c.a, c.b); got != c.want || over != c.over {
			t.Errorf("Saturate(%d, %d) = %d, %v, want %d, %v", c.a, c.b, got, over, c.want, c.over)
		}
	}
	for _, a := range edges {
		for _, b := range edges {
			checkSaturate(t, a, b)
		}
	}
	random(20000, func(next func() int64) { checkSaturate(t, next(), next()) })
}

// TestRatio checks P2.5.
func TestRatio(t *testing.T) {
	for _, c := range []struct {
		a, b, c, d int64
		want       int
		err        api.Errno
	}{
		{1, 3, 2, 6, 0, api.OK},
		{1, 3, 2, 5, -1, api.OK},
		{2, 5, 1, 3, 1, api.OK},
		{-1, 3, -2, 6, 0, api.OK},
		{-1, 3, -1, 2, 1, api.OK},
		{-1, 2, -1, 3, -1, api.OK},
		{-1, 3, 0, 6, -1, api.OK},
		{0, 6, -1, 3, 1, api.OK},
		{0, 1, 0, greatest, 0, api.OK},
		{-5, 1, 5, 1, -1, api.OK},
		{5, 1, -5, 1, 1, api.OK},
		{least, 1, least, 2, -1, api.OK},
		{least, greatest, greatest, 1, -1, api.OK},
		// The products differ by 1 beyond 64 bits.
		{greatest, greatest - 1, greatest - 1, greatest - 2, -1, api.OK},
		{greatest - 1, greatest - 2, greatest, greatest - 1, 1, api.OK},
		{1, 0, 1, 1, 0, api.ErrInvalid},
		{1, 1, 1, 0, 0, api.ErrInvalid},
		{1, -1, 1, 1, 0, api.ErrInvalid},
		{1, 1, 1, -1, 0, api.ErrInvalid},
		{-1, least, 1, 1, 0, api.ErrInvalid},
		{1, 1, -1, least, 0, api.ErrInvalid},
		{2, 0, 1, -2, 0, api.ErrInvalid},
	} {
		if got, err := fixed.Ratio(c.a, c.b, c.c, c.d); got != c.want || err != c.err {
			t.Errorf("Ratio(%d, %d, %d, %d) = %d, %d, want %d, %d", c.a, c.b, c.c, c.d, got, err, c.want, c.err)
		}
	}
	// Every other edge, since all combinations of four would take long.
	for i := 0; i < len(edges); i += 2 {
		for _, b := range edges {
			for j := 1; j < len(edges); j += 2 {
				for _, d := range edges {
					checkRatio(t, edges[i], b, edges[j], d)
				}
			}
		}
	}
	random(20000, func(next func() int64) {
		a, b, c, d := next(), next(), next(), next()
		checkRatio(t, a, b, c, d)
		checkRatio(t, a, b&greatest|1, c, d&greatest|1)
	})
}

// results is what all functions return for the same three numbers.
type results struct {
	sum, difference, product, quotient, scaled, clamped, saturated int64
	errs                                                           [6]api.Errno
	other, over                                                    bool
	order                                                          int
}

func resultsOf(a, b, c int64, round int) results {
	var r results
	r.sum, r.errs[0] = fixed.Add(a, b)
	r.difference, r.errs[1] = fixed.Sub(a, b)
	r.product, r.errs[2] = fixed.Mul(a, b)
	r.quotient, r.errs[3] = fixed.Quotient(a, b, round)
	r.scaled, r.errs[4] = fixed.MulDiv(a, b, c, round)
	r.order, r.errs[5] = fixed.Ratio(a, b, b, c)
	r.clamped, r.other = fixed.Clamp(a, b, c)
	r.saturated, r.over = fixed.Saturate(a, b)
	return r
}

// TestRepeated checks P2: neither earlier calls nor their order matter.
func TestRepeated(t *testing.T) {
	type call struct {
		a, b, c int64
		round   int
	}
	var calls []call
	random(5000, func(next func() int64) {
		calls = append(calls, call{next(), next(), next(), int(next() & 3)})
	})
	var first []results
	for _, c := range calls {
		first = append(first, resultsOf(c.a, c.b, c.c, c.round))
	}
	for i := len(calls) - 1; i >= 0; i-- {
		c := calls[i]
		if again := resultsOf(c.a, c.b, c.c, c.round); again != first[i] {
			t.Errorf("%+v: got %+v first and %+v then", c, first[i], again)
		}
	}
}
