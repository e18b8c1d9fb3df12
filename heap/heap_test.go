package heap_test

import (
	"cmp"
	"math"
	"math/rand/v2"
	"reflect"
	"slices"
	"testing"

	"airshare/api"
	"airshare/heap"
)

const (
	least    = math.MinInt64
	greatest = math.MaxInt64
)

// badIDs are ids that no entry can have.
func badIDs() []int {
	return []int{-1, -2, math.MinInt, api.MaxItems, api.MaxItems + 1, 1 << 32, math.MaxInt}
}

// order is the chapter's order of entries.
func order(a, b api.Entry) int {
	if a.Key != b.Key {
		return cmp.Compare(a.Key, b.Key)
	}
	return cmp.Compare(a.ID, b.ID)
}

// empty returns a heap with this capacity and no entries.
func empty(t *testing.T, capacity int) *heap.Heap {
	t.Helper()
	h, err := heap.New(capacity)
	if h == nil || err != api.OK {
		t.Fatalf("New(%d) = %v, %d", capacity, h, err)
	}
	return h
}

// filled returns a heap with room for one more, into which the entries have been pushed in their order.
func filled(t *testing.T, entries ...api.Entry) *heap.Heap {
	t.Helper()
	h := empty(t, len(entries)+1)
	for _, e := range entries {
		if err := h.Push(e.ID, e.Key); err != api.OK {
			t.Fatalf("Push(%d, %d) = %d", e.ID, e.Key, err)
		}
	}
	return h
}

// keyed returns entries with the ids 0, 1, .. and these keys.
func keyed(keys ...int64) []api.Entry {
	var out []api.Entry
	for id, key := range keys {
		out = append(out, api.Entry{ID: id, Key: key})
	}
	return out
}

// checkContent checks all that can be seen of a heap without a change.
func checkContent(t *testing.T, what string, h *heap.Heap, entries []api.Entry) {
	t.Helper()
	want := slices.SortedFunc(slices.Values(entries), order)
	if got := h.Entries(); !slices.Equal(got, want) {
		t.Fatalf("%s: Entries() = %v, want %v", what, got, want)
	}
	if got := h.Len(); got != len(want) {
		t.Fatalf("%s: Len() = %d, want %d", what, got, len(want))
	}
	wantLeast, wantErr := api.Entry{}, api.ErrEmpty
	if len(want) > 0 {
		wantLeast, wantErr = want[0], api.OK
	}
	if got, err := h.Peek(); got != wantLeast || err != wantErr {
		t.Fatalf("%s: Peek() = %v, %d, want %v, %d", what, got, err, wantLeast, wantErr)
	}
	keys := map[int]int64{}
	for _, e := range want {
		keys[e.ID] = e.Key
	}
	for id := -1; id <= api.MaxItems; id++ {
		wantKey, wantThere := keys[id]
		if got, there := h.Key(id); got != wantKey || there != wantThere {
			t.Fatalf("%s: Key(%d) = %d, %t, want %d, %t", what, id, got, there, wantKey, wantThere)
		}
	}
}

// checkDrain pops all entries, and one more.
func checkDrain(t *testing.T, what string, h *heap.Heap, entries []api.Entry) {
	t.Helper()
	want := slices.SortedFunc(slices.Values(entries), order)
	for i, w := range want {
		if got, err := h.Pop(); got != w || err != api.OK {
			t.Fatalf("%s: Pop() %d of %v = %v, %d, want %v, 0", what, i, want, got, err, w)
		}
		if got := h.Len(); got != len(want)-i-1 {
			t.Fatalf("%s: Len() = %d after %d of %d pops", what, got, i+1, len(want))
		}
	}
	if got, err := h.Pop(); got != (api.Entry{}) || err != api.ErrEmpty {
		t.Fatalf("%s: Pop() = %v, %d, want {0 0}, %d", what, got, err, api.ErrEmpty)
	}
}

// TestNew checks P4.1.
func TestNew(t *testing.T) {
	for _, capacity := range []int{1, 2, 3, 100, api.MaxItems - 1, api.MaxItems} {
		h := empty(t, capacity)
		checkContent(t, "new", h, nil)
		var entries []api.Entry
		for id := range capacity {
			e := api.Entry{ID: id, Key: int64(id * 77 % 101)}
			entries = append(entries, e)
			if err := h.Push(e.ID, e.Key); err != api.OK {
				t.Fatalf("capacity %d: Push(%d, %d) = %d with %d entries", capacity, e.ID, e.Key, err, id)
			}
		}
		if err := h.Push(capacity, 0); capacity < api.MaxItems && err != api.ErrFull {
			t.Errorf("capacity %d: Push(%d, 0) = %d, want %d", capacity, capacity, err, api.ErrFull)
		}
		checkContent(t, "full", h, entries)
		checkDrain(t, "full", h, entries)
	}
	for _, capacity := range []int{0, -1, -2, math.MinInt, api.MaxItems + 1, api.MaxItems + 2, 1 << 32, math.MaxInt} {
		if h, err := heap.New(capacity); h != nil || err != api.ErrInvalid {
			t.Errorf("New(%d) = %v, %d, want nil, %d", capacity, h, err, api.ErrInvalid)
		}
	}
}

// TestExamples checks the chapter's examples.
func TestExamples(t *testing.T) {
	h := filled(t, []api.Entry{{ID: 3, Key: 5}, {ID: 1, Key: 5}, {ID: 2, Key: 4}}...)
	if err := h.Update(2, 9); err != api.OK {
		t.Errorf("Update(2, 9) = %d", err)
	}
	for _, want := range []api.Entry{{ID: 1, Key: 5}, {ID: 3, Key: 5}, {ID: 2, Key: 9}} {
		if got, err := h.Pop(); got != want || err != api.OK {
			t.Errorf("Pop() = %v, %d, want %v, 0", got, err, want)
		}
	}
	h = filled(t, api.Entry{ID: 1, Key: 0})
	if err := h.Push(1, 0); err != api.ErrDuplicate {
		t.Errorf("Push(1, 0) = %d, want %d", err, api.ErrDuplicate)
	}
}

// TestPushErrors checks the errors of Push in P4.2, their order, and that they have no effect.
func TestPushErrors(t *testing.T) {
	entries := []api.Entry{{ID: 0, Key: 5}, {ID: api.MaxItems - 1, Key: -5}, {ID: 9, Key: 0}}
	roomy, full := filled(t, entries...), empty(t, len(entries))
	for _, e := range entries {
		full.Push(e.ID, e.Key)
	}
	for _, key := range []int64{0, 1, -5, 5, least, greatest} {
		check := func(h *heap.Heap, id int, want api.Errno) {
			t.Helper()
			if err := h.Push(id, key); err != want {
				t.Errorf("Push(%d, %d) = %d, want %d", id, key, err, want)
			}
			checkContent(t, "after an error", h, entries)
		}
		for _, id := range badIDs() {
			check(roomy, id, api.ErrInvalid)
			check(full, id, api.ErrInvalid)
		}
		for _, e := range entries {
			check(roomy, e.ID, api.ErrDuplicate)
			check(full, e.ID, api.ErrDuplicate)
		}
		for _, id := range []int{1, 2, 3, api.MaxItems - 2} {
			check(full, id, api.ErrFull)
		}
	}
	if err := roomy.Push(1, 1); err != api.OK {
		t.Errorf("Push(1, 1) = %d with room for one", err)
	}
	if err := roomy.Push(2, 1); err != api.ErrFull {
		t.Errorf("Push(2, 1) = %d, want %d", err, api.ErrFull)
	}
}

// TestRoom checks that an entry that has been removed or popped leaves its room and its id, and that Update takes no room.
func TestRoom(t *testing.T) {
	h := empty(t, 2)
	steps := []api.Errno{
		h.Push(4, 1), h.Push(5, 2), h.Update(4, 7), h.Push(6, 3),
	}
	key, err := h.Remove(4)
	steps = append(steps, err, h.Push(4, 9), h.Push(6, 3))
	popped, err := h.Pop()
	steps = append(steps, err, h.Push(5, 8), h.Push(6, 3))
	want := []api.Errno{api.OK, api.OK, api.OK, api.ErrFull, api.OK, api.OK, api.ErrFull, api.OK, api.OK, api.ErrFull}
	if !slices.Equal(steps, want) || key != 7 || popped != (api.Entry{ID: 5, Key: 2}) {
		t.Errorf("errors %v, removed %d, popped %v", steps, key, popped)
	}
	checkContent(t, "at last", h, []api.Entry{{ID: 4, Key: 9}, {ID: 5, Key: 8}})
}

// TestNotFound checks the errors of Update and Remove in P4.2, and that they have no effect.
func TestNotFound(t *testing.T) {
	gone := filled(t, keyed(3, 1, 2, 4)...)
	gone.Remove(0)
	gone.Pop()
	for _, c := range []struct {
		h       *heap.Heap
		entries []api.Entry
		ids     []int
	}{
		{empty(t, 5), nil, []int{0, 1, api.MaxItems - 1}},
		{filled(t, keyed(0, 0, 0)...), keyed(0, 0, 0), []int{3, 4, api.MaxItems - 1}},
		{gone, []api.Entry{{ID: 2, Key: 2}, {ID: 3, Key: 4}}, []int{0, 1, 4}},
	} {
		for _, id := range append(badIDs(), c.ids...) {
			for _, key := range []int64{0, 1, least, greatest} {
				if err := c.h.Update(id, key); err != api.ErrNotFound {
					t.Errorf("Update(%d, %d) = %d, want %d", id, key, err, api.ErrNotFound)
				}
			}
			if key, err := c.h.Remove(id); key != 0 || err != api.ErrNotFound {
				t.Errorf("Remove(%d) = %d, %d, want 0, %d", id, key, err, api.ErrNotFound)
			}
			if key, there := c.h.Key(id); key != 0 || there {
				t.Errorf("Key(%d) = %d, %t, want 0, false", id, key, there)
			}
			checkContent(t, "after errors", c.h, c.entries)
		}
	}
}

// TestEmpty checks the errors of Pop and Peek in P4.3, for heaps that are new and for such that have become empty.
func TestEmpty(t *testing.T) {
	popped, removed := filled(t, keyed(8, 7)...), filled(t, keyed(8, 7)...)
	popped.Pop()
	popped.Pop()
	removed.Remove(1)
	removed.Remove(0)
	for i, h := range []*heap.Heap{empty(t, 1), popped, removed} {
		for range 3 {
			if got, err := h.Pop(); got != (api.Entry{}) || err != api.ErrEmpty {
				t.Errorf("heap %d: Pop() = %v, %d, want {0 0}, %d", i, got, err, api.ErrEmpty)
			}
			if got, err := h.Peek(); got != (api.Entry{}) || err != api.ErrEmpty {
				t.Errorf("heap %d: Peek() = %v, %d, want {0 0}, %d", i, got, err, api.ErrEmpty)
			}
		}
		if err := h.Push(1, 6); err != api.OK {
			t.Errorf("heap %d: Push(1, 6) = %d", i, err)
		}
		checkContent(t, "no longer empty", h, []api.Entry{{ID: 1, Key: 6}})
	}
}

// TestOrder checks the order of P4.3 and P4.4 for keys that are equal, very different, or both, pushed in several orders.
func TestOrder(t *testing.T) {
	for _, keys := range [][]int64{
		{0},
		{0, 0, 0, 0, 0, 0, 0, 0, 0},
		{1, 2, 3, 4, 5, 6, 7, 8, 9},
		{9, 8, 7, 6, 5, 4, 3, 2, 1},
		{1, 0, 1, 0, 1, 0, 1, 0, 1},
		{-1, 0, 1, -1, 0, 1},
		// The differences of these keys do not fit into 64 bits, those of the next ones not into 32.
		{greatest, least, 0, -1, 1, least, greatest, least + 1, greatest - 1},
		{1 << 32, 0, 1 << 31, -1 << 32, 1<<32 + 1, 1, 1 << 62, -1 << 31},
	} {
		entries := keyed(keys...)
		reversed := slices.Clone(entries)
		slices.Reverse(reversed)
		for _, pushed := range [][]api.Entry{entries, reversed} {
			h := filled(t, pushed...)
			checkContent(t, "pushed", h, entries)
			checkDrain(t, "pushed", h, entries)
		}
	}
	spread := []api.Entry{{ID: api.MaxItems - 1, Key: 3}, {ID: 0, Key: 3}, {ID: 2048, Key: 3}, {ID: 1, Key: 4}, {ID: 4000, Key: 2}}
	checkDrain(t, "spread", filled(t, spread...), spread)
}

// TestPeek checks that Peek and the other methods that read change nothing.
func TestPeek(t *testing.T) {
	entries := keyed(5, 3, 8, 3, 9, 1, 1)
	h := filled(t, entries...)
	for range 3 {
		if got, err := h.Peek(); got != (api.Entry{ID: 5, Key: 1}) || err != api.OK {
			t.Errorf("Peek() = %v, %d, want {5 1}, 0", got, err)
		}
		checkContent(t, "read", h, entries)
	}
	checkDrain(t, "read", h, entries)
}

// TestOneChange updates each entry of a heap to each key, and removes each, and empties the heap after that. Its order of keys lets the last entry rise if it takes the place of another.
func TestOneChange(t *testing.T) {
	keys := []int64{0, 100, 10, 110, 120, 20, 30, 130, 140, 150, 160, 40, 50, 60, 70}
	for id := range keys {
		for key := int64(-5); key <= 170; key += 5 {
			entries := keyed(keys...)
			h := filled(t, entries...)
			if err := h.Update(id, key); err != api.OK {
				t.Fatalf("Update(%d, %d) = %d", id, key, err)
			}
			entries[id].Key = key
			checkDrain(t, "updated", h, entries)
		}
		entries := keyed(keys...)
		h := filled(t, entries...)
		if key, err := h.Remove(id); key != keys[id] || err != api.OK {
			t.Fatalf("Remove(%d) = %d, %d, want %d, 0", id, key, err, keys[id])
		}
		checkDrain(t, "removed", h, slices.Delete(entries, id, id+1))
	}
}

// TestSameKey checks that Update with the same key changes nothing.
func TestSameKey(t *testing.T) {
	entries := keyed(4, 4, 2, 7, 2, 9, 4, least, greatest)
	h := filled(t, entries...)
	for _, e := range entries {
		if err := h.Update(e.ID, e.Key); err != api.OK {
			t.Errorf("Update(%d, %d) = %d", e.ID, e.Key, err)
		}
		checkContent(t, "updated", h, entries)
	}
	checkDrain(t, "updated", h, entries)
}

// model is a second wording of the chapter: a map without any order.
type model struct {
	capacity int
	keys     map[int]int64
}

func (m *model) entries() []api.Entry {
	var out []api.Entry
	for id, key := range m.keys {
		out = append(out, api.Entry{ID: id, Key: key})
	}
	return out
}

func (m *model) push(id int, key int64) api.Errno {
	_, there := m.keys[id]
	switch {
	case id < 0 || id > api.MaxItems-1:
		return api.ErrInvalid
	case there:
		return api.ErrDuplicate
	case len(m.keys) == m.capacity:
		return api.ErrFull
	}
	m.keys[id] = key
	return api.OK
}

func (m *model) update(id int, key int64) api.Errno {
	if _, there := m.keys[id]; !there {
		return api.ErrNotFound
	}
	m.keys[id] = key
	return api.OK
}

func (m *model) remove(id int) (int64, api.Errno) {
	key, there := m.keys[id]
	if !there {
		return 0, api.ErrNotFound
	}
	delete(m.keys, id)
	return key, api.OK
}

func (m *model) pop() (api.Entry, api.Errno) {
	if len(m.keys) == 0 {
		return api.Entry{}, api.ErrEmpty
	}
	out := slices.MinFunc(m.entries(), order)
	delete(m.keys, out.ID)
	return out, api.OK
}

// step is a call of a method that may change a heap.
type step struct {
	kind int
	id   int
	key  int64
}

// result is what such a call returns.
type result struct {
	entry api.Entry
	err   api.Errno
}

func onHeap(h *heap.Heap, s step) (out result) {
	switch s.kind {
	case 0, 1:
		out.err = h.Push(s.id, s.key)
	case 2:
		out.err = h.Update(s.id, s.key)
	case 3:
		out.entry.Key, out.err = h.Remove(s.id)
	default:
		out.entry, out.err = h.Pop()
	}
	return out
}

func onModel(m *model, s step) (out result) {
	switch s.kind {
	case 0, 1:
		out.err = m.push(s.id, s.key)
	case 2:
		out.err = m.update(s.id, s.key)
	case 3:
		out.entry.Key, out.err = m.remove(s.id)
	default:
		out.entry, out.err = m.pop()
	}
	return out
}

// randomSteps returns n steps with ids from -1 to ids and with few or many different keys, of which some are very large. There is about one pop for two pushes.
func randomSteps(source *rand.Rand, n, ids, keys int) []step {
	var out []step
	for range n {
		s := step{kind: source.IntN(5), id: source.IntN(ids+2) - 1, key: int64(source.IntN(keys)) - int64(keys/2)}
		if source.IntN(8) == 0 {
			s.key = []int64{least, greatest, least + 1, greatest - 1}[source.IntN(4)]
		}
		out = append(out, s)
	}
	return out
}

// TestRandom compares heaps with the model, step by step.
func TestRandom(t *testing.T) {
	source := rand.New(rand.NewPCG(5, 6))
	for _, c := range []struct{ capacity, ids, keys, steps int }{
		{1, 2, 2, 300},
		{3, 5, 2, 600},
		{7, 9, 3, 1000},
		{20, 20, 100, 1000},
		{50, 70, 5, 2000},
		{300, 300, 1000, 3000},
		{api.MaxItems, api.MaxItems, 1 << 40, 3000},
	} {
		for range 5 {
			h, m := empty(t, c.capacity), &model{c.capacity, map[int]int64{}}
			for i, s := range randomSteps(source, c.steps, c.ids, c.keys) {
				if got, want := onHeap(h, s), onModel(m, s); got != want {
					t.Fatalf("capacity %d: step %d, %+v: %+v, want %+v", c.capacity, i, s, got, want)
				}
				if i%10 == 0 {
					checkContent(t, "random", h, m.entries())
				}
			}
			checkDrain(t, "random", h, m.entries())
		}
	}
}

// TestSmall runs all sequences of five steps with two ids and two keys on a heap for one entry and on one for two.
func TestSmall(t *testing.T) {
	var steps []step
	for id := range 2 {
		for key := range int64(2) {
			steps = append(steps, step{1, id, key}, step{2, id, key})
		}
		steps = append(steps, step{3, id, 0})
	}
	steps = append(steps, step{kind: 4})
	n := len(steps)
	for _, capacity := range []int{1, 2} {
		// A heap that has been emptied is as good as a new one.
		h, m := empty(t, capacity), &model{capacity, map[int]int64{}}
		for sequence := range n * n * n * n * n {
			rest := sequence
			for range 5 {
				s := steps[rest%n]
				rest /= n
				if got, want := onHeap(h, s), onModel(m, s); got != want {
					t.Fatalf("capacity %d: sequence %d, %+v: %+v, want %+v", capacity, sequence, s, got, want)
				}
			}
			checkDrain(t, "small", h, m.entries())
			clear(m.keys)
		}
	}
}

// TestLarge fills a heap to MaxItems, changes and removes many of its entries, and empties it.
func TestLarge(t *testing.T) {
	source := rand.New(rand.NewPCG(7, 8))
	h, m := empty(t, api.MaxItems), &model{api.MaxItems, map[int]int64{}}
	run := func(s step) {
		t.Helper()
		if got, want := onHeap(h, s), onModel(m, s); got != want {
			t.Fatalf("%+v: %+v, want %+v", s, got, want)
		}
	}
	for _, id := range source.Perm(api.MaxItems) {
		run(step{1, id, source.Int64N(1000)})
	}
	checkContent(t, "full", h, m.entries())
	for i, id := range source.Perm(api.MaxItems) {
		switch i % 4 {
		case 0:
			run(step{3, id, 0})
		case 1, 2:
			run(step{2, id, source.Int64N(1000)})
		}
	}
	checkContent(t, "changed", h, m.entries())
	checkDrain(t, "changed", h, m.entries())
}

// TestRepeated checks P2: the results depend only on the calls made before on the same heap, whatever is done with another one in between.
func TestRepeated(t *testing.T) {
	source := rand.New(rand.NewPCG(9, 10))
	steps := randomSteps(source, 500, 30, 10)
	run := func(between func()) (out []any) {
		h := empty(t, 20)
		for _, s := range steps {
			between()
			out = append(out, onHeap(h, s), h.Entries(), h.Len())
		}
		return out
	}
	other := empty(t, 20)
	want := run(func() {})
	for range 3 {
		noise := randomSteps(source, len(steps), 30, 10)
		got := run(func() {
			onHeap(other, noise[0])
			noise = noise[1:]
		})
		if !reflect.DeepEqual(got, want) {
			t.Error("the results depend on another heap")
		}
	}
}

// TestOwnMemory checks that the results of Entries share no memory with each other or with the heap: it changes a result, and the heap after that.
func TestOwnMemory(t *testing.T) {
	entries := keyed(6, 2, 4)
	h := filled(t, entries...)
	first, second := h.Entries(), h.Entries()
	for i := range first {
		first[i] = api.Entry{ID: 77, Key: -77}
	}
	_ = append(first[:0], api.Entry{ID: 78, Key: -78})
	want := []api.Entry{{ID: 1, Key: 2}, {ID: 2, Key: 4}, {ID: 0, Key: 6}}
	if !slices.Equal(second, want) {
		t.Errorf("a list of entries has become %v with another one", second)
	}
	checkContent(t, "with a changed list", h, entries)
	h.Push(3, 0)
	h.Update(0, 1)
	h.Pop()
	h.Remove(2)
	if !slices.Equal(second, want) {
		t.Errorf("a list of entries has become %v with the heap", second)
	}
}
