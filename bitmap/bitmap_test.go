package bitmap_test

import (
	"math"
	"math/rand/v2"
	"slices"
	"testing"

	"airshare/api"
	"airshare/bitmap"
)

const (
	last = api.SeqSpace - 1
	half = api.SeqSpace / 2
	all  = math.MaxUint64
)

// badNumbers are not sequence numbers.
var badNumbers = []int{-1, -2, -64, -half, -api.SeqSpace, -api.SeqSpace - 1, last + 1, last + 2, last + 65, 2 * api.SeqSpace, 1 << 32, 1<<32 + 1, -1 << 32, math.MaxInt, math.MaxInt - 1, math.MinInt, math.MinInt + 1}

// bases are sequence numbers at which a byte, the half or the whole of the numbers ends, or a bitmap wraps around.
var bases = []int{0, 1, 2, 5, 63, 64, 65, 255, 256, 257, 1000, 0x1234, half - 64, half - 1, half, half + 1, last - 64, last - 63, last - 62, last - 5, last - 1, last}

// patterns are bits of bitmaps.
var patterns = []uint64{
	0, 1, 2, 3, 4, 5, 0b10111, 0b1100, 0xff, 0x100, 1<<31 - 1, 1 << 31, 1<<32 - 1, 1 << 32, 1<<33 - 1,
	1 << 62, 1<<62 - 1, 1<<63 - 1, 1 << 63, 1<<63 | 1, 1<<63 | 1<<62, 3 << 61, 5<<61 | 5,
	0x0102030405060708, 0xfedcba9876543210, 0xaaaaaaaaaaaaaaaa, 0x5555555555555555, all - 1, all - 2, all >> 2, all ^ 1<<32, all,
}

// after returns the sequence number behind seq, at which the counting of numbers begins again if there is none.
func after(seq int) int {
	if seq == last {
		return 0
	}
	return seq + 1
}

// before returns the sequence number ahead of seq.
func before(seq int) int {
	if seq == 0 {
		return last
	}
	return seq - 1
}

// ahead returns the sequence number that n single steps lead to.
func ahead(seq, n int) int {
	for range n {
		seq = after(seq)
	}
	return seq
}

// setOf returns the sequence numbers whose bits are set, found bit by bit without the package.
func setOf(m api.Bitmap) map[int]bool {
	out, seq := map[int]bool{}, m.Base
	for k := range 64 {
		if m.Bits/(1<<k)%2 == 1 {
			out[seq] = true
		}
		seq = after(seq)
	}
	return out
}

// bitmapOf returns the bitmap with this base in which all those bits are set that belong to a number of set.
func bitmapOf(base int, set map[int]bool) api.Bitmap {
	m, seq, value := api.Bitmap{Base: base}, base, uint64(1)
	for range 64 {
		if set[seq] {
			m.Bits += value
		}
		value *= 2
		seq = after(seq)
	}
	return m
}

// everyBitmap calls visit with all the bases and patterns, and with some other bitmaps.
func everyBitmap(visit func(m api.Bitmap)) {
	for _, base := range bases {
		for _, bits := range patterns {
			visit(api.Bitmap{Base: base, Bits: bits})
		}
	}
	source := rand.New(rand.NewPCG(21, 22))
	for range 200 {
		visit(api.Bitmap{Base: source.IntN(api.SeqSpace), Bits: source.Uint64() >> source.IntN(64) << source.IntN(8)})
	}
}

func checkNext(t *testing.T, seq, n, want int, wantErr api.Errno) {
	t.Helper()
	if got, err := bitmap.Next(seq, n); got != want || err != wantErr {
		t.Fatalf("Next(%d, %d) = %d, %d, want %d, %d", seq, n, got, err, want, wantErr)
	}
}

func checkDistance(t *testing.T, a, b, want int, wantErr api.Errno) {
	t.Helper()
	if got, err := bitmap.Distance(a, b); got != want || err != wantErr {
		t.Fatalf("Distance(%d, %d) = %d, %d, want %d, %d", a, b, got, err, want, wantErr)
	}
}

func checkBefore(t *testing.T, a, b int, want bool) {
	t.Helper()
	if got := bitmap.Before(a, b); got != want {
		t.Fatalf("Before(%d, %d) = %t, want %t", a, b, got, want)
	}
}

func checkInside(t *testing.T, base, size, seq int, want bool) {
	t.Helper()
	if got := bitmap.Inside(base, size, seq); got != want {
		t.Fatalf("Inside(%d, %d, %d) = %t, want %t", base, size, seq, got, want)
	}
}

func checkSet(t *testing.T, m api.Bitmap, seq int, want api.Bitmap, wantErr api.Errno) {
	t.Helper()
	if got, err := bitmap.Set(m, seq); got != want || err != wantErr {
		t.Fatalf("Set(%+v, %d) = %+v, %d, want %+v, %d", m, seq, got, err, want, wantErr)
	}
}

func checkHas(t *testing.T, m api.Bitmap, seq int, want bool) {
	t.Helper()
	if got := bitmap.Has(m, seq); got != want {
		t.Fatalf("Has(%+v, %d) = %t, want %t", m, seq, got, want)
	}
}

func checkAdvance(t *testing.T, m, want api.Bitmap, wantSteps int) {
	t.Helper()
	if got, steps := bitmap.Advance(m); got != want || steps != wantSteps {
		t.Fatalf("Advance(%+v) = %+v, %d, want %+v, %d", m, got, steps, want, wantSteps)
	}
}

func checkMove(t *testing.T, m api.Bitmap, base int, want api.Bitmap, wantErr api.Errno) {
	t.Helper()
	if got, err := bitmap.Move(m, base); got != want || err != wantErr {
		t.Fatalf("Move(%+v, %d) = %+v, %d, want %+v, %d", m, base, got, err, want, wantErr)
	}
}

func checkPack(t *testing.T, m api.Bitmap, want string, wantErr api.Errno) {
	t.Helper()
	if got, err := bitmap.Pack(m); got != want || err != wantErr {
		t.Fatalf("Pack(%+v) = %q, %d, want %q, %d", m, got, err, want, wantErr)
	}
}

func checkUnpack(t *testing.T, s string, want api.Bitmap, wantErr api.Errno) {
	t.Helper()
	if got, err := bitmap.Unpack(s); got != want || err != wantErr {
		t.Fatalf("Unpack(%q) = %+v, %d, want %+v, %d", s, got, err, want, wantErr)
	}
}

// TestExamples checks the chapter's examples.
func TestExamples(t *testing.T) {
	checkDistance(t, 65530, 4, 10, api.OK)
	checkAdvance(t, api.Bitmap{Base: 65534, Bits: 0b10111}, api.Bitmap{Base: 1, Bits: 0b10}, 3)
	checkSet(t, api.Bitmap{}, 64, api.Bitmap{}, api.ErrRange)
}

// TestNext checks Next in P6.1 for all steps from some sequence numbers, by counting them.
func TestNext(t *testing.T) {
	for _, seq := range bases {
		forward, back := seq, seq
		for n := range api.SeqSpace + 1 {
			checkNext(t, seq, n, forward, api.OK)
			checkNext(t, seq, -n, back, api.OK)
			forward, back = after(forward), before(back)
		}
	}
}

// TestNextInvalid checks ErrInvalid of Next in P6.1.
func TestNextInvalid(t *testing.T) {
	badSteps := []int{api.SeqSpace + 1, api.SeqSpace + 2, -api.SeqSpace - 1, -api.SeqSpace - 2, 2 * api.SeqSpace, -2 * api.SeqSpace, 1 << 32, -1 << 32, math.MaxInt, math.MaxInt - last, math.MinInt, math.MinInt + 1}
	for _, n := range badSteps {
		for _, seq := range slices.Concat(bases, badNumbers) {
			checkNext(t, seq, n, 0, api.ErrInvalid)
		}
	}
	for _, seq := range badNumbers {
		for _, n := range []int{0, 1, -1, 64, half, -half, api.SeqSpace, -api.SeqSpace} {
			checkNext(t, seq, n, 0, api.ErrInvalid)
		}
	}
}

// TestDistance checks Distance and Before in P6.1 from some sequence numbers to all, by counting the steps.
func TestDistance(t *testing.T) {
	for _, a := range bases {
		b := a
		for n := range api.SeqSpace {
			checkDistance(t, a, b, n, api.OK)
			checkBefore(t, a, b, n >= 1 && n < half)
			b = after(b)
		}
	}
}

// TestBefore checks Before in P6.1 where its result changes.
func TestBefore(t *testing.T) {
	for _, c := range []struct {
		a, b int
		want bool
	}{
		{0, 0, false}, {3, 3, false}, {last, last, false},
		{0, 1, true}, {1, 0, false}, {last, 0, true}, {0, last, false},
		{0, half - 1, true}, {0, half, false}, {0, half + 1, false}, {half, 0, false},
		{half, last, true}, {half + 1, 0, true}, {half + 2, 0, true}, {last, half - 2, true}, {last, half - 1, false},
	} {
		checkBefore(t, c.a, c.b, c.want)
	}
}

// TestPairsInvalid checks P6.1 for pairs of which one or both are not sequence numbers.
func TestPairsInvalid(t *testing.T) {
	for _, bad := range badNumbers {
		for _, other := range slices.Concat(bases, badNumbers) {
			for _, pair := range [][2]int{{bad, other}, {other, bad}} {
				checkDistance(t, pair[0], pair[1], 0, api.ErrInvalid)
				checkBefore(t, pair[0], pair[1], false)
				for _, size := range []int{1, 2, 64} {
					checkInside(t, pair[0], size, pair[1], false)
				}
			}
		}
	}
}

// TestInside checks Inside in P6.1 for all sizes, among them such as are not permitted.
func TestInside(t *testing.T) {
	for _, base := range bases {
		for size := -2; size <= 67; size++ {
			seq := base
			for n := range 140 {
				checkInside(t, base, size, seq, size >= 1 && size <= 64 && n < size)
				seq = after(seq)
			}
			for _, n := range []int{half - 1, half, half + 1, api.SeqSpace - 64, api.SeqSpace - 2, api.SeqSpace - 1} {
				checkInside(t, base, size, ahead(base, n), false)
			}
		}
		for _, size := range []int{-64, 128, api.SeqSpace, 1 << 32, 1<<32 + 1, math.MaxInt, math.MinInt} {
			checkInside(t, base, size, base, false)
			checkInside(t, base, size, after(base), false)
		}
	}
}

// TestValid checks Valid in P6.2.
func TestValid(t *testing.T) {
	for _, bits := range patterns {
		for _, base := range bases {
			if !bitmap.Valid(api.Bitmap{Base: base, Bits: bits}) {
				t.Errorf("Valid(%d, %#x) = false", base, bits)
			}
		}
		for _, base := range badNumbers {
			if bitmap.Valid(api.Bitmap{Base: base, Bits: bits}) {
				t.Errorf("Valid(%d, %#x) = true", base, bits)
			}
		}
	}
	for base := range api.SeqSpace {
		if !bitmap.Valid(api.Bitmap{Base: base}) {
			t.Fatalf("Valid(%d, 0) = false", base)
		}
	}
}

// TestBits checks Set and Has in P6.2 for each bit of a bitmap, set before or not, and for numbers near it that have none.
func TestBits(t *testing.T) {
	everyBitmap(func(m api.Bitmap) {
		set, seq := setOf(m), m.Base
		for range 64 {
			checkHas(t, m, seq, set[seq])
			want := setOf(m)
			want[seq] = true
			checkSet(t, m, seq, bitmapOf(m.Base, want), api.OK)
			seq = after(seq)
		}
		early := before(m.Base)
		for range 70 {
			checkHas(t, m, seq, false)
			checkSet(t, m, seq, api.Bitmap{}, api.ErrRange)
			checkHas(t, m, early, false)
			checkSet(t, m, early, api.Bitmap{}, api.ErrRange)
			seq, early = after(seq), before(early)
		}
	})
}

// TestAllNumbers checks Set and Has in P6.2 for all sequence numbers with some bases.
func TestAllNumbers(t *testing.T) {
	for _, base := range []int{0, 1000, half, last - 20, last} {
		full, seq := api.Bitmap{Base: base, Bits: all}, base
		for n := range api.SeqSpace {
			checkHas(t, full, seq, n < 64)
			if n < 64 {
				checkSet(t, api.Bitmap{Base: base}, seq, api.Bitmap{Base: base, Bits: 1 << n}, api.OK)
			} else {
				checkSet(t, api.Bitmap{Base: base}, seq, api.Bitmap{}, api.ErrRange)
			}
			seq = after(seq)
		}
	}
}

// TestBitsInvalid checks in P6.2 that Set returns ErrInvalid, before ErrRange, and Has returns false, for bitmaps that are not valid and for what is not a sequence number.
func TestBitsInvalid(t *testing.T) {
	for _, bits := range []uint64{0, 1, all} {
		for _, bad := range badNumbers {
			for _, seq := range slices.Concat(bases, badNumbers, []int{bad, bad + 1, bad + 63}) {
				m := api.Bitmap{Base: bad, Bits: bits}
				checkSet(t, m, seq, api.Bitmap{}, api.ErrInvalid)
				checkHas(t, m, seq, false)
			}
			for _, base := range bases {
				m := api.Bitmap{Base: base, Bits: bits}
				checkSet(t, m, bad, api.Bitmap{}, api.ErrInvalid)
				checkHas(t, m, bad, false)
			}
		}
	}
}

// TestAdvance checks Advance in P6.3 against a removal of numbers from the set, one by one.
func TestAdvance(t *testing.T) {
	check := func(m api.Bitmap) {
		t.Helper()
		set, base, steps := setOf(m), m.Base, 0
		for set[base] {
			delete(set, base)
			base = after(base)
			steps++
		}
		checkAdvance(t, m, bitmapOf(base, set), steps)
	}
	everyBitmap(check)
	// Each number of set bits at the beginning, with all bits behind the first clear one, none, or some.
	for _, base := range bases {
		for ones := range 64 {
			for _, rest := range []uint64{0, all, 0x5555555555555555, 0xaaaaaaaaaaaaaaaa, 1 << 63} {
				check(api.Bitmap{Base: base, Bits: 1<<ones - 1 | rest<<ones<<1})
			}
		}
	}
}

// TestAdvanceEnds checks Advance in P6.3 for bitmaps without and with all bits, and for such as are not valid.
func TestAdvanceEnds(t *testing.T) {
	for _, base := range bases {
		checkAdvance(t, api.Bitmap{Base: base}, api.Bitmap{Base: base}, 0)
		checkAdvance(t, api.Bitmap{Base: base, Bits: all - 1}, api.Bitmap{Base: base, Bits: all - 1}, 0)
		checkAdvance(t, api.Bitmap{Base: base, Bits: all}, api.Bitmap{Base: ahead(base, 64)}, 64)
	}
	for _, base := range badNumbers {
		for _, bits := range patterns {
			checkAdvance(t, api.Bitmap{Base: base, Bits: bits}, api.Bitmap{}, 0)
		}
	}
}

// TestMove checks Move in P6.3 for the distances at which some bits stay and a few more, and for those about the greatest one.
func TestMove(t *testing.T) {
	everyBitmap(func(m api.Bitmap) {
		set, base := setOf(m), m.Base
		for range 70 {
			checkMove(t, m, base, bitmapOf(base, set), api.OK)
			delete(set, base)
			base = after(base)
		}
	})
	for _, from := range bases {
		for _, bits := range []uint64{0, 1, 1 << 63, all} {
			m, base := api.Bitmap{Base: from, Bits: bits}, from
			for n := range api.SeqSpace {
				switch {
				case n >= half:
					checkMove(t, m, base, api.Bitmap{}, api.ErrInvalid)
				case n >= 64:
					checkMove(t, m, base, api.Bitmap{Base: base}, api.OK)
				}
				base = after(base)
			}
		}
	}
}

// TestMoveInvalid checks ErrInvalid of Move in P6.3 for bitmaps that are not valid and for what is not a sequence number.
func TestMoveInvalid(t *testing.T) {
	for _, bits := range []uint64{0, 1, all} {
		for _, bad := range badNumbers {
			for _, other := range slices.Concat(bases, badNumbers, []int{bad, bad + 1}) {
				checkMove(t, api.Bitmap{Base: bad, Bits: bits}, other, api.Bitmap{}, api.ErrInvalid)
			}
			for _, base := range bases {
				checkMove(t, api.Bitmap{Base: base, Bits: bits}, bad, api.Bitmap{}, api.ErrInvalid)
			}
		}
	}
}

// TestKept checks the second consequence: while the base of a bitmap moves by all ways in turn, each number that is inside is set exactly if it was set since it came inside.
func TestKept(t *testing.T) {
	source := rand.New(rand.NewPCG(23, 24))
	for _, start := range []int{0, 100, last - 10, last - 200} {
		m, set := api.Bitmap{Base: start}, map[int]bool{}
		for step := range 400 {
			for range source.IntN(12) {
				seq, err := bitmap.Next(m.Base, min(source.IntN(64), source.IntN(64)))
				if err != api.OK {
					t.Fatalf("Next = %d at the base %d", err, m.Base)
				}
				if m, err = bitmap.Set(m, seq); err != api.OK {
					t.Fatalf("Set(%d) = %d at the base %d", seq, err, m.Base)
				}
				set[seq] = true
			}
			from := m.Base
			if step%3 == 0 {
				m, _ = bitmap.Move(m, ahead(m.Base, source.IntN(30)))
			} else {
				m, _ = bitmap.Advance(m)
			}
			for ; from != m.Base; from = after(from) {
				delete(set, from)
			}
			if want := bitmapOf(m.Base, set); m != want || len(setOf(m)) != len(set) {
				t.Fatalf("step %d from %d: %+v, want %+v", step, start, m, want)
			}
		}
	}
}

// TestPack checks the packed forms in P6.4, byte by byte, and both directions of the first consequence.
func TestPack(t *testing.T) {
	for _, c := range []struct {
		m      api.Bitmap
		packed string
	}{
		{api.Bitmap{}, "\x00\x00\x00\x00\x00\x00\x00\x00\x00\x00"},
		{api.Bitmap{Base: 0x1234, Bits: 0x0102030405060708}, "\x12\x34\x08\x07\x06\x05\x04\x03\x02\x01"},
		{api.Bitmap{Base: 1}, "\x00\x01\x00\x00\x00\x00\x00\x00\x00\x00"},
		{api.Bitmap{Base: 256}, "\x01\x00\x00\x00\x00\x00\x00\x00\x00\x00"},
		{api.Bitmap{Bits: 1}, "\x00\x00\x01\x00\x00\x00\x00\x00\x00\x00"},
		{api.Bitmap{Bits: 1 << 63}, "\x00\x00\x00\x00\x00\x00\x00\x00\x00\x80"},
		{api.Bitmap{Base: last, Bits: all}, "\xff\xff\xff\xff\xff\xff\xff\xff\xff\xff"},
		{api.Bitmap{Base: 0xfe80, Bits: 0x8182c3c4f5f6e7e8}, "\xfe\x80\xe8\xe7\xf6\xf5\xc4\xc3\x82\x81"},
	} {
		checkPack(t, c.m, c.packed, api.OK)
		checkUnpack(t, c.packed, c.m, api.OK)
	}
	for k := range 64 {
		packed := make([]byte, 10)
		packed[2+k/8] = 1 << (k % 8)
		checkPack(t, api.Bitmap{Bits: 1 << k}, string(packed), api.OK)
		checkUnpack(t, string(packed), api.Bitmap{Bits: 1 << k}, api.OK)
	}
	everyBitmap(func(m api.Bitmap) {
		packed, err := bitmap.Pack(m)
		if len(packed) != 10 || err != api.OK {
			t.Fatalf("Pack(%+v) = %q, %d", m, packed, err)
		}
		checkUnpack(t, packed, m, api.OK)
	})
}

// TestUnpackAll checks that each string of ten bytes is a packed form: Unpack takes it, and Pack returns it.
func TestUnpackAll(t *testing.T) {
	source := rand.New(rand.NewPCG(25, 26))
	for base := range api.SeqSpace {
		packed := []byte{byte(base / 256), byte(base % 256)}
		for range 8 {
			packed = append(packed, byte(source.IntN(256)))
		}
		m, err := bitmap.Unpack(string(packed))
		if m.Base != base || err != api.OK {
			t.Fatalf("Unpack(%q) = %+v, %d", packed, m, err)
		}
		checkPack(t, m, string(packed), api.OK)
	}
}

// TestPackedErrors checks the errors in P6.4.
func TestPackedErrors(t *testing.T) {
	for _, bits := range patterns {
		for _, base := range badNumbers {
			checkPack(t, api.Bitmap{Base: base, Bits: bits}, "", api.ErrInvalid)
		}
	}
	for _, fill := range []byte{0, 1, ' ', 0x7f, 0x80, 0xc3, 0xff} {
		long := make([]byte, 5000)
		for i := range long {
			long[i] = fill
		}
		for n := range 10 {
			checkUnpack(t, string(long[:n]), api.Bitmap{}, api.ErrTruncated)
		}
		for _, n := range []int{11, 12, 18, 20, 255, 256, 266, 5000} {
			checkUnpack(t, string(long[:n]), api.Bitmap{}, api.ErrMalformed)
		}
	}
	// Strings are measured in bytes, not in runes.
	checkUnpack(t, "éééé", api.Bitmap{}, api.ErrTruncated)
	checkUnpack(t, "ééééé", api.Bitmap{Base: 0xc3a9, Bits: 0xa9c3a9c3a9c3a9c3}, api.OK)
	checkUnpack(t, "éééééééééé", api.Bitmap{}, api.ErrMalformed)
}

// results is what all functions return for the same bitmap and number.
type results struct {
	next, distance, steps    int
	before, inside           bool
	valid, has               bool
	set, advanced            api.Bitmap
	moved, unpacked          api.Bitmap
	packed                   string
	nextErr, distanceErr     api.Errno
	setErr, moveErr, packErr api.Errno
	unpackErr                api.Errno
}

func resultsOf(m api.Bitmap, seq int) (r results) {
	r.next, r.nextErr = bitmap.Next(m.Base, seq)
	r.distance, r.distanceErr = bitmap.Distance(m.Base, seq)
	r.before, r.inside = bitmap.Before(m.Base, seq), bitmap.Inside(m.Base, 40, seq)
	r.valid, r.has = bitmap.Valid(m), bitmap.Has(m, seq)
	r.set, r.setErr = bitmap.Set(m, seq)
	r.advanced, r.steps = bitmap.Advance(m)
	r.moved, r.moveErr = bitmap.Move(m, seq)
	r.packed, r.packErr = bitmap.Pack(m)
	r.unpacked, r.unpackErr = bitmap.Unpack(r.packed)
	return r
}

// TestRepeated checks P2: neither earlier calls nor their order matter.
func TestRepeated(t *testing.T) {
	type arguments struct {
		m   api.Bitmap
		seq int
	}
	var calls []arguments
	for _, base := range slices.Concat(bases, badNumbers) {
		for _, bits := range patterns {
			for _, seq := range []int{base, base + 1, base + 63, base + 64, 0, -1, last, last + 1, 10} {
				calls = append(calls, arguments{api.Bitmap{Base: base, Bits: bits}, seq})
			}
		}
	}
	var first []results
	for _, c := range calls {
		first = append(first, resultsOf(c.m, c.seq))
	}
	for i, c := range slices.Backward(calls) {
		if again := resultsOf(c.m, c.seq); again != first[i] {
			t.Errorf("%+v: got %+v first and %+v then", c, first[i], again)
		}
	}
}
