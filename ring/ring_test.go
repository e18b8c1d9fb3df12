package ring_test

import (
	"math"
	"math/rand/v2"
	"reflect"
	"slices"
	"testing"

	"airshare/api"
	"airshare/ring"
)

// badIndices are indices that no number of a ring with n numbers has.
func badIndices(n int) []int {
	return []int{n, n + 1, n + 2, 2 * n, 2*n + 1, -1, -2, -n, -n - 1, api.MaxItems, 1 << 32, -1 << 32, math.MaxInt, math.MaxInt - 1, math.MinInt, math.MinInt + 1}
}

// empty returns a ring with this capacity and no numbers.
func empty(t *testing.T, capacity int) *ring.Ring {
	t.Helper()
	r, err := ring.New(capacity)
	if r == nil || err != api.OK {
		t.Fatalf("New(%d) = %v, %d", capacity, r, err)
	}
	return r
}

// turned returns a ring with these numbers, through which as many others as turns have gone before, so that it can begin at any place inside.
func turned(t *testing.T, capacity, turns int, numbers ...int) *ring.Ring {
	t.Helper()
	r := empty(t, capacity)
	for i := range turns {
		other := -1000 - i
		if err := r.Push(other); err != api.OK {
			t.Fatalf("Push(%d) = %d", other, err)
		}
		if got, err := r.Pop(); got != other || err != api.OK {
			t.Fatalf("Pop() = %d, %d, want %d, 0", got, err, other)
		}
	}
	for _, x := range numbers {
		if err := r.Push(x); err != api.OK {
			t.Fatalf("Push(%d) = %d with %v of %d numbers", x, err, r.Items(), capacity)
		}
	}
	return r
}

// counted returns n different numbers other than 0.
func counted(n int) []int {
	out := make([]int, n)
	for i := range out {
		out[i] = 10 + i
	}
	return out
}

// checkContent checks all that can be seen of a ring without a change.
func checkContent(t *testing.T, what string, r *ring.Ring, capacity int, want []int) {
	t.Helper()
	if got := r.Items(); !slices.Equal(got, want) {
		t.Fatalf("%s: Items() = %v, want %v", what, got, want)
	}
	if got := r.Len(); got != len(want) {
		t.Fatalf("%s: Len() = %d, want %d", what, got, len(want))
	}
	if got := r.Cap(); got != capacity {
		t.Fatalf("%s: Cap() = %d, want %d", what, got, capacity)
	}
	for i, w := range want {
		if got, there := r.At(i); got != w || !there {
			t.Fatalf("%s: At(%d) = %d, %t, want %d, true", what, i, got, there, w)
		}
	}
	for _, i := range append(badIndices(len(want)), capacity-len(want)-1, capacity) {
		if i >= 0 && i < len(want) {
			continue
		}
		if got, there := r.At(i); got != 0 || there {
			t.Fatalf("%s: At(%d) = %d, %t with %d of %d numbers", what, i, got, there, len(want), capacity)
		}
	}
}

// checkDrain pops all numbers, and one more.
func checkDrain(t *testing.T, what string, r *ring.Ring, want []int) {
	t.Helper()
	for i, w := range want {
		if got, err := r.Pop(); got != w || err != api.OK {
			t.Fatalf("%s: Pop() %d of %v = %d, %d, want %d, 0", what, i, want, got, err, w)
		}
		if got := r.Len(); got != len(want)-i-1 {
			t.Fatalf("%s: Len() = %d after %d of %d pops", what, got, i+1, len(want))
		}
	}
	if got, err := r.Pop(); got != 0 || err != api.ErrEmpty {
		t.Fatalf("%s: Pop() = %d, %d, want 0, %d", what, got, err, api.ErrEmpty)
	}
}

// TestNew checks P5.1.
func TestNew(t *testing.T) {
	for _, capacity := range []int{1, 2, 3, 4, 5, 7, 8, 9, 100, api.MaxItems - 1, api.MaxItems} {
		r := empty(t, capacity)
		checkContent(t, "new", r, capacity, nil)
		numbers := counted(capacity)
		for i, x := range numbers {
			if err := r.Push(x); err != api.OK {
				t.Fatalf("capacity %d: Push(%d) = %d with %d numbers", capacity, x, err, i)
			}
		}
		if err := r.Push(1); err != api.ErrFull {
			t.Errorf("capacity %d: Push(1) = %d, want %d", capacity, err, api.ErrFull)
		}
		checkContent(t, "full", r, capacity, numbers)
		checkDrain(t, "full", r, numbers)
		checkContent(t, "empty again", r, capacity, nil)
	}
	for _, capacity := range []int{0, -1, -2, math.MinInt, api.MaxItems + 1, api.MaxItems + 2, 1 << 32, 1<<32 + 1, math.MaxInt} {
		if r, err := ring.New(capacity); r != nil || err != api.ErrInvalid {
			t.Errorf("New(%d) = %v, %d, want nil, %d", capacity, r, err, api.ErrInvalid)
		}
	}
}

// TestExamples checks the chapter's examples.
func TestExamples(t *testing.T) {
	r := turned(t, 3, 0, 1, 2, 3)
	if got, err := r.Pop(); got != 1 || err != api.OK {
		t.Errorf("Pop() = %d, %d, want 1, 0", got, err)
	}
	if err := r.Push(4); err != api.OK {
		t.Errorf("Push(4) = %d", err)
	}
	checkContent(t, "with 4", r, 3, []int{2, 3, 4})
	if err := r.Push(5); err != api.ErrFull {
		t.Errorf("Push(5) = %d, want %d", err, api.ErrFull)
	}
	if got, err := r.Remove(1); got != 3 || err != api.OK {
		t.Errorf("Remove(1) = %d, %d, want 3, 0", got, err)
	}
	checkContent(t, "without 3", r, 3, []int{2, 4})
}

// TestEnds checks for each end that P5.2 adds to it and removes from it, wherever the ring begins and however many numbers it holds.
func TestEnds(t *testing.T) {
	for _, capacity := range []int{1, 2, 3, 4, 7} {
		for turns := range capacity + 1 {
			for n := range capacity {
				numbers := counted(n)
				r := turned(t, capacity, turns, numbers...)
				if err := r.PushFront(-7); err != api.OK {
					t.Fatalf("PushFront(-7) = %d with %d of %d numbers", err, n, capacity)
				}
				checkContent(t, "pushed at the beginning", r, capacity, append([]int{-7}, numbers...))
				if got, err := r.Pop(); got != -7 || err != api.OK {
					t.Fatalf("Pop() = %d, %d, want -7, 0", got, err)
				}
				checkContent(t, "popped at the beginning", r, capacity, numbers)
				if err := r.Push(-8); err != api.OK {
					t.Fatalf("Push(-8) = %d with %d of %d numbers", err, n, capacity)
				}
				checkContent(t, "pushed at the end", r, capacity, append(slices.Clone(numbers), -8))
				if got, err := r.PopBack(); got != -8 || err != api.OK {
					t.Fatalf("PopBack() = %d, %d, want -8, 0", got, err)
				}
				checkContent(t, "popped at the end", r, capacity, numbers)
				checkDrain(t, "at last", r, numbers)
			}
		}
	}
}

// TestFull checks ErrFull in P5.2, that it has no effect, and that each way of removing a number makes room for one.
func TestFull(t *testing.T) {
	removals := []func(r *ring.Ring) (int, api.Errno){
		(*ring.Ring).Pop,
		(*ring.Ring).PopBack,
		func(r *ring.Ring) (int, api.Errno) { return r.Remove(r.Cap() / 2) },
	}
	additions := []func(r *ring.Ring, x int) api.Errno{(*ring.Ring).Push, (*ring.Ring).PushFront}
	checkFull := func(r *ring.Ring) {
		t.Helper()
		items := r.Items()
		for k, add := range additions {
			for _, x := range []int{0, 5, -5, math.MinInt, math.MaxInt} {
				if err := add(r, x); err != api.ErrFull {
					t.Fatalf("addition %d of %d = %d, want %d", k, x, err, api.ErrFull)
				}
				checkContent(t, "full", r, r.Cap(), items)
			}
		}
	}
	for _, capacity := range []int{1, 2, 3, 8} {
		for turns := range capacity {
			for i, remove := range removals {
				for k, add := range additions {
					r := turned(t, capacity, turns, counted(capacity)...)
					checkFull(r)
					if _, err := remove(r); err != api.OK {
						t.Fatalf("capacity %d: removal %d = %d", capacity, i, err)
					}
					if err := add(r, 99); err != api.OK {
						t.Fatalf("capacity %d: addition %d = %d after removal %d", capacity, k, err, i)
					}
					checkFull(r)
				}
			}
		}
	}
}

// TestEmpty checks ErrEmpty in P5.2, for rings that are new and for such that have become empty, and that it has no effect.
func TestEmpty(t *testing.T) {
	popped, poppedBack, removed := turned(t, 2, 1, 8, 7), turned(t, 2, 1, 8, 7), turned(t, 2, 1, 8, 7)
	for range 2 {
		popped.Pop()
		poppedBack.PopBack()
		removed.Remove(0)
	}
	for i, r := range []*ring.Ring{empty(t, 2), popped, poppedBack, removed} {
		for range 3 {
			if got, err := r.Pop(); got != 0 || err != api.ErrEmpty {
				t.Errorf("ring %d: Pop() = %d, %d, want 0, %d", i, got, err, api.ErrEmpty)
			}
			if got, err := r.PopBack(); got != 0 || err != api.ErrEmpty {
				t.Errorf("ring %d: PopBack() = %d, %d, want 0, %d", i, got, err, api.ErrEmpty)
			}
			checkContent(t, "empty", r, 2, nil)
		}
		if err := r.Push(6); err != api.OK {
			t.Errorf("ring %d: Push(6) = %d", i, err)
		}
		if err := r.PushFront(5); err != api.OK {
			t.Errorf("ring %d: PushFront(5) = %d", i, err)
		}
		checkContent(t, "no longer empty", r, 2, []int{5, 6})
	}
}

// TestRemove checks Remove in P5.3 at each index, wherever the ring begins and however many numbers it holds.
func TestRemove(t *testing.T) {
	for _, capacity := range []int{1, 2, 3, 4, 7} {
		for turns := range capacity + 1 {
			for n := 1; n <= capacity; n++ {
				for i := range n {
					numbers := counted(n)
					r := turned(t, capacity, turns, numbers...)
					if got, err := r.Remove(i); got != numbers[i] || err != api.OK {
						t.Fatalf("Remove(%d) of %v = %d, %d, want %d, 0", i, numbers, got, err, numbers[i])
					}
					numbers = slices.Delete(numbers, i, i+1)
					checkContent(t, "removed", r, capacity, numbers)
					if err := r.Push(-9); err != api.OK {
						t.Fatalf("Push(-9) = %d with %d of %d numbers", err, n-1, capacity)
					}
					numbers = append(numbers, -9)
					checkContent(t, "with another one", r, capacity, numbers)
					checkDrain(t, "with another one", r, numbers)
				}
			}
		}
	}
}

// TestNotFound checks ErrNotFound in P5.3, that At finds nothing either, and that this has no effect. The cells behind the last number have held numbers before.
func TestNotFound(t *testing.T) {
	const capacity = 5
	for turns := range capacity {
		for n := range capacity + 1 {
			r := turned(t, capacity, turns, counted(capacity)...)
			for range capacity - n {
				r.PopBack()
			}
			want := counted(n)
			for _, i := range append(badIndices(n), capacity-1, capacity, capacity+n) {
				if i >= 0 && i < n {
					continue
				}
				if got, err := r.Remove(i); got != 0 || err != api.ErrNotFound {
					t.Fatalf("Remove(%d) of %v = %d, %d, want 0, %d", i, want, got, err, api.ErrNotFound)
				}
				if got, there := r.At(i); got != 0 || there {
					t.Fatalf("At(%d) of %v = %d, %t, want 0, false", i, want, got, there)
				}
				checkContent(t, "after errors", r, capacity, want)
			}
			checkDrain(t, "after errors", r, want)
		}
	}
}

// TestNumbers checks that a ring takes any numbers, and equal ones.
func TestNumbers(t *testing.T) {
	numbers := []int{0, math.MinInt, math.MaxInt, -1, 0, 0, 1 << 32, -1 << 32, math.MaxInt, -1, 1<<31 - 1}
	for turns := range len(numbers) {
		r := turned(t, len(numbers), turns, numbers...)
		checkContent(t, "pushed", r, len(numbers), numbers)
		checkDrain(t, "pushed", r, numbers)
		for _, x := range numbers {
			if err := r.PushFront(x); err != api.OK {
				t.Fatalf("PushFront(%d) = %d", x, err)
			}
		}
		reversed := slices.Clone(numbers)
		slices.Reverse(reversed)
		checkContent(t, "pushed at the beginning", r, len(numbers), reversed)
		for _, w := range numbers {
			if got, err := r.PopBack(); got != w || err != api.OK {
				t.Fatalf("PopBack() = %d, %d, want %d, 0", got, err, w)
			}
		}
		checkContent(t, "popped at the end", r, len(numbers), nil)
	}
}

// TestSameOrder checks the chapter's consequences: while a ring is filled to every level many times over, what is pushed is popped in the same order, and never more than capacity numbers are in it.
func TestSameOrder(t *testing.T) {
	for _, capacity := range []int{1, 2, 3, 10} {
		r, pushed, popped := empty(t, capacity), 0, 0
		for round := range 50 {
			for range round % (capacity + 3) {
				if err := r.Push(pushed); err == api.OK {
					pushed++
				}
				if n := r.Len(); n > capacity || n != pushed-popped || n != len(r.Items()) {
					t.Fatalf("capacity %d: %d numbers after %d pushes and %d pops", capacity, n, pushed, popped)
				}
			}
			for range round % (capacity + 2) {
				if got, err := r.Pop(); err == api.OK {
					if got != popped {
						t.Fatalf("capacity %d: pop %d returns %d", capacity, popped, got)
					}
					popped++
				}
			}
		}
		if popped < 10*capacity {
			t.Errorf("capacity %d: only %d pops", capacity, popped)
		}
	}
}

// model is a second wording of the chapter: a slice that is copied for each change.
type model struct {
	capacity int
	items    []int
}

func (m *model) insert(i, x int) api.Errno {
	if len(m.items) == m.capacity {
		return api.ErrFull
	}
	m.items = slices.Concat(m.items[:i], []int{x}, m.items[i:])
	return api.OK
}

func (m *model) remove(i int, missing api.Errno) (int, api.Errno) {
	if i < 0 || i >= len(m.items) {
		return 0, missing
	}
	x := m.items[i]
	m.items = slices.Concat(m.items[:i], m.items[i+1:])
	return x, api.OK
}

// Kinds of steps.
const (
	push = iota
	pushFront
	pop
	popBack
	remove
)

// step is a call of a method that may change a ring, with its argument.
type step struct {
	kind int
	x    int
}

// result is what such a call returns.
type result struct {
	x   int
	err api.Errno
}

func onRing(r *ring.Ring, s step) (out result) {
	switch s.kind {
	case push:
		out.err = r.Push(s.x)
	case pushFront:
		out.err = r.PushFront(s.x)
	case pop:
		out.x, out.err = r.Pop()
	case popBack:
		out.x, out.err = r.PopBack()
	default:
		out.x, out.err = r.Remove(s.x)
	}
	return out
}

func onModel(m *model, s step) (out result) {
	switch s.kind {
	case push:
		out.err = m.insert(len(m.items), s.x)
	case pushFront:
		out.err = m.insert(0, s.x)
	case pop:
		out.x, out.err = m.remove(0, api.ErrEmpty)
	case popBack:
		out.x, out.err = m.remove(len(m.items)-1, api.ErrEmpty)
	default:
		out.x, out.err = m.remove(s.x, api.ErrNotFound)
	}
	return out
}

// randomSteps returns n steps. Some stretches of them add more than they remove, the others remove more, so that a ring gets full and empty.
func randomSteps(source *rand.Rand, n, capacity int) []step {
	var out []step
	adds := true
	for range n {
		if source.IntN(2*capacity) == 0 {
			adds = !adds
		}
		s := step{kind: source.IntN(5), x: source.IntN(1000) - 500}
		if adds && source.IntN(2) == 0 {
			s.kind = source.IntN(2)
		}
		if s.kind == remove {
			s.x = source.IntN(capacity+2) - 1
		}
		out = append(out, s)
	}
	return out
}

// TestRandom compares rings with the model, step by step.
func TestRandom(t *testing.T) {
	source := rand.New(rand.NewPCG(11, 12))
	for _, c := range []struct{ capacity, steps int }{
		{1, 300}, {2, 500}, {3, 500}, {4, 500}, {5, 1000}, {16, 1000}, {33, 2000}, {100, 3000}, {api.MaxItems, 12000},
	} {
		full, drained := false, false
		for range 4 {
			r, m := empty(t, c.capacity), &model{capacity: c.capacity}
			for i, s := range randomSteps(source, c.steps, c.capacity) {
				got, want := onRing(r, s), onModel(m, s)
				if got != want {
					t.Fatalf("capacity %d: step %d, %+v: %+v, want %+v", c.capacity, i, s, got, want)
				}
				full = full || want.err == api.ErrFull
				drained = drained || want.err == api.ErrEmpty
				if i%10 == 0 {
					checkContent(t, "random", r, c.capacity, m.items)
				}
			}
			checkDrain(t, "random", r, m.items)
		}
		if c.capacity <= 16 && (!full || !drained) {
			t.Errorf("capacity %d: full %t, empty %t", c.capacity, full, drained)
		}
	}
}

// TestSmall runs all sequences of six steps on rings for one number, for two and for three. Each number that is pushed is another one.
func TestSmall(t *testing.T) {
	steps := []step{{kind: push}, {kind: pushFront}, {kind: pop}, {kind: popBack}, {remove, 0}, {remove, 1}, {remove, 2}}
	n := len(steps)
	for capacity := 1; capacity <= 3; capacity++ {
		for sequence := range n * n * n * n * n * n {
			r, m := empty(t, capacity), &model{capacity: capacity}
			rest := sequence
			for i := range 6 {
				s := steps[rest%n]
				rest /= n
				if s.kind == push || s.kind == pushFront {
					s.x = i + 1
				}
				if got, want := onRing(r, s), onModel(m, s); got != want {
					t.Fatalf("capacity %d: sequence %d, %+v: %+v, want %+v", capacity, sequence, s, got, want)
				}
			}
			checkContent(t, "small", r, capacity, m.items)
		}
	}
}

// TestLarge fills a ring to MaxItems from both ends, removes some of its numbers, fills it again, and empties it.
func TestLarge(t *testing.T) {
	source := rand.New(rand.NewPCG(13, 14))
	r, m := empty(t, api.MaxItems), &model{capacity: api.MaxItems}
	run := func(s step) {
		t.Helper()
		if got, want := onRing(r, s), onModel(m, s); got != want {
			t.Fatalf("%+v: %+v, want %+v", s, got, want)
		}
	}
	for i := range api.MaxItems + 1 {
		run(step{source.IntN(2), i})
	}
	checkContent(t, "full", r, api.MaxItems, m.items)
	for range 1000 {
		run(step{remove, source.IntN(len(m.items))})
	}
	checkContent(t, "removed", r, api.MaxItems, m.items)
	for i := range 1002 {
		run(step{source.IntN(2), -i})
	}
	checkContent(t, "full again", r, api.MaxItems, m.items)
	checkDrain(t, "full again", r, m.items)
}

// TestRead checks that the methods that read change nothing.
func TestRead(t *testing.T) {
	numbers := []int{5, 3, 8}
	r := turned(t, 4, 2, numbers...)
	for range 5 {
		checkContent(t, "read", r, 4, numbers)
	}
	checkDrain(t, "read", r, numbers)
}

// TestRepeated checks P2: the results depend only on the calls made before on the same ring, whatever is done with another one in between.
func TestRepeated(t *testing.T) {
	source := rand.New(rand.NewPCG(15, 16))
	steps := randomSteps(source, 500, 10)
	run := func(between func()) (out []any) {
		r := empty(t, 10)
		for _, s := range steps {
			between()
			out = append(out, onRing(r, s), r.Items(), r.Len(), r.Cap())
		}
		return out
	}
	other := empty(t, 10)
	want := run(func() {})
	for range 3 {
		noise := randomSteps(source, len(steps), 10)
		got := run(func() {
			onRing(other, noise[0])
			noise = noise[1:]
		})
		if !reflect.DeepEqual(got, want) {
			t.Error("the results depend on another ring")
		}
	}
}

// TestOwnMemory checks that the results of Items share no memory with each other or with the ring: it changes a result, and the ring after that.
func TestOwnMemory(t *testing.T) {
	for turns := range 5 {
		for n := range 6 {
			numbers := counted(n)
			r := turned(t, 5, turns, numbers...)
			first, second := r.Items(), r.Items()
			for i := range first {
				first[i] = -77
			}
			_ = append(first, -78)
			_ = append(first[:0], -79)
			if !slices.Equal(second, numbers) {
				t.Errorf("%v has become %v with another list", numbers, second)
			}
			checkContent(t, "with a changed list", r, 5, numbers)
			r.PopBack()
			r.Pop()
			r.Remove(1)
			for range 3 {
				r.Push(-80)
				r.PushFront(-81)
			}
			if !slices.Equal(second, numbers) {
				t.Errorf("%v has become %v with the ring", numbers, second)
			}
		}
	}
}
