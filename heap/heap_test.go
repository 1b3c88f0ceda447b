package heap

import (
	"math"
	"slices"
	"testing"

	"foliot/api"
)

// timer: a key of the run 1, told apart by its number alone.
func timer(id int64) Key { return Key{Run: 1, Kind: 1, ID: id} }

func mustPut(t *testing.T, h *Heap, k Key, due int64) {
	t.Helper()
	if e := h.Put(k, due); e != api.OK {
		t.Fatalf("Put(%v, %d): %v", k, due, e)
	}
}

// heapOf: a heap into which timers were put, with the numbers 1, 2 and so on, due at these ticks.
func heapOf(t *testing.T, dues ...int64) *Heap {
	t.Helper()
	h := &Heap{}
	for i, due := range dues {
		mustPut(t, h, timer(int64(i+1)), due)
	}
	return h
}

// wantAll: all that is there, in order, and what else tells of it.
func wantAll(t *testing.T, h *Heap, want ...Item) {
	t.Helper()
	if got := h.All(); !slices.Equal(got, want) {
		t.Errorf("All: %v, want %v", got, want)
	}
	if h.Len() != len(want) || !h.Right() {
		t.Errorf("Len, Right: %d, %v, want %d, true", h.Len(), h.Right(), len(want))
	}
	for _, it := range want {
		if got, ok := h.Get(it.Key); !ok || got != it {
			t.Errorf("Get(%v): %v, %v, want %v", it.Key, got, ok, it)
		}
	}
	first, some := Item{}, len(want) > 0
	if some {
		first = want[0]
	}
	if got, ok := h.Top(); ok != some || got != first {
		t.Errorf("Top: %v, %v, want %v, %v", got, ok, first, some)
	}
}

// wantNone: such a thing isn't there.
func wantNone(t *testing.T, h *Heap, k Key) {
	t.Helper()
	if it, ok := h.Get(k); ok || it != (Item{}) {
		t.Errorf("Get(%v): %v, %v", k, it, ok)
	}
	if it, ok := h.Cancel(k); ok || it != (Item{}) {
		t.Errorf("Cancel(%v): %v, %v", k, it, ok)
	}
}

// popped: all, as they are popped.
func popped(t *testing.T, h *Heap) []Item {
	t.Helper()
	var list []Item
	for h.Len() > 0 {
		top, _ := h.Top()
		it, ok := h.Pop()
		if !ok || it != top || !h.Right() {
			t.Fatalf("Pop: %v, %v behind Top's %v; Right: %v", it, ok, top, h.Right())
		}
		wantNone(t, h, it.Key)
		list = append(list, it)
	}
	return list
}

// inOrder: the numbers and the ticks of things, as the words tell their order, by other means.
func inOrder(list []Item) []Item {
	list = slices.Clone(list)
	for i := range list {
		for j := i; j > 0; j-- {
			a, b := list[j-1], list[j]
			if a.Due < b.Due || a.Due == b.Due && a.Seq < b.Seq {
				break
			}
			list[j-1], list[j] = b, a
		}
	}
	return list
}

// each: each order of the numbers below n.
func each(n int, do func(order []int)) {
	var next func(order []int)
	next = func(order []int) {
		if len(order) == n {
			do(order)
		}
		for i := range n {
			if !slices.Contains(order, i) {
				next(append(slices.Clone(order), i))
			}
		}
	}
	next(nil)
}

// The chapter's example.
func TestExample(t *testing.T) {
	var h Heap
	mustPut(t, &h, timer(1), 9)
	mustPut(t, &h, timer(2), 5)
	if it, ok := h.Top(); !ok || it != (Item{Key: timer(2), Due: 5, Seq: 2}) {
		t.Errorf("Top: %v, %v", it, ok)
	}
}

// P16.1 and P16.3: six ticks, some of them the same, put in each order.
func TestOrder(t *testing.T) {
	ticks := []int64{3, 5, 5, 5, 8, 8}
	each(len(ticks), func(order []int) {
		h := &Heap{}
		var put []Item
		for i, n := range order {
			mustPut(t, h, timer(int64(n)), ticks[n])
			put = append(put, Item{Key: timer(int64(n)), Due: ticks[n], Seq: uint64(i + 1)})
		}
		want := inOrder(put)
		wantAll(t, h, want...)
		if got := popped(t, h); !slices.Equal(got, want) {
			t.Fatalf("put by the order %v: popped %v", order, got)
		}
	})
}

// P16.1: the keys don't count, and any tick may be.
func TestOrderOfAnyTick(t *testing.T) {
	dues := []int64{math.MaxInt64, 0, math.MinInt64, 1, -1, math.MaxInt64, math.MinInt64, 0, 1 << 62, -1 << 62}
	var h Heap
	for i, due := range dues {
		mustPut(t, &h, Key{Run: -i, Kind: 9 - i, ID: int64(-i)}, due)
	}
	var got []uint64
	for _, it := range h.All() {
		got = append(got, it.Seq)
	}
	want := []uint64{3, 7, 10, 5, 2, 8, 4, 9, 1, 6}
	if !slices.Equal(got, want) {
		t.Errorf("All: the numbers %v, want %v", got, want)
	}
}

// P16.2: the zero heap has none.
func TestEmpty(t *testing.T) {
	var h Heap
	for range 2 {
		wantAll(t, &h)
		wantNone(t, &h, Key{})
		if it, ok := h.Pop(); ok || it != (Item{}) {
			t.Errorf("Pop: %v, %v", it, ok)
		}
		if got := h.Due(math.MaxInt64); len(got) != 0 {
			t.Errorf("Due: %v", got)
		}
		if n := h.Drop(0); n != 0 {
			t.Errorf("Drop: %d", n)
		}
		mustPut(t, &h, Key{}, 0) // it is empty again behind that
		h.Pop()
	}
}

// P16.2: Put, ErrTwice and the numbers that things get.
func TestPut(t *testing.T) {
	var h Heap
	mustPut(t, &h, timer(4), 7)
	for _, due := range []int64{7, 6, 8, math.MinInt64} {
		if e := h.Put(timer(4), due); e != api.ErrTwice {
			t.Errorf("Put once more, due at %d: %v", due, e)
		}
	}
	four := Item{Key: timer(4), Due: 7, Seq: 1}
	wantAll(t, &h, four)

	// what was refused got no number
	mustPut(t, &h, timer(5), 7)
	five := Item{Key: timer(5), Due: 7, Seq: 2}
	wantAll(t, &h, four, five)

	// a number isn't got again, and what is gone may be put anew
	h.Cancel(timer(4))
	mustPut(t, &h, timer(4), 7)
	wantAll(t, &h, five, Item{Key: timer(4), Due: 7, Seq: 3})
	h.Pop()
	h.Drop(1)
	wantAll(t, &h)
	mustPut(t, &h, timer(5), 1)
	wantAll(t, &h, Item{Key: timer(5), Due: 1, Seq: 4})
}

// P16.2: keys are one if all of their fields are the same.
func TestKeys(t *testing.T) {
	var keys []Key
	for _, run := range []int{math.MinInt, -1, 0, 1, math.MaxInt} {
		for _, kind := range []int{math.MinInt, 0, 1, 2, math.MaxInt} {
			for _, id := range []int64{math.MinInt64, 0, 1, 2, math.MaxInt64} {
				keys = append(keys, Key{Run: run, Kind: kind, ID: id})
			}
		}
	}
	var h Heap
	var want []Item
	for i, k := range keys {
		wantNone(t, &h, k)
		mustPut(t, &h, k, 3)
		want = append(want, Item{Key: k, Due: 3, Seq: uint64(i + 1)})
	}
	wantAll(t, &h, want...)
	for i, k := range keys {
		if e := h.Put(k, 2); e != api.ErrTwice {
			t.Errorf("Put(%v) once more: %v", k, e)
		}
		if it, ok := h.Cancel(k); !ok || it != want[i] {
			t.Errorf("Cancel(%v): %v, %v", k, it, ok)
		}
	}
	wantAll(t, &h)
}

// P16.2: ErrFull, and ErrTwice ahead of it.
func TestFull(t *testing.T) {
	if MaxItems != 16384 {
		t.Errorf("MaxItems: %d", MaxItems)
	}
	var h Heap
	for i := range int64(16384) {
		mustPut(t, &h, timer(i), -i)
	}
	full := h.All()
	if e := h.Put(timer(16384), 1); e != api.ErrFull {
		t.Errorf("Put of one too many: %v", e)
	}
	if e := h.Put(timer(0), 1); e != api.ErrTwice {
		t.Errorf("Put once more, where there is no room: %v", e)
	}
	if !slices.Equal(h.All(), full) || h.Len() != 16384 || !h.Right() {
		t.Error("what was refused has changed something")
	}
	if it, ok := h.Cancel(timer(7)); !ok || it.Due != -7 {
		t.Errorf("Cancel: %v, %v", it, ok)
	}
	mustPut(t, &h, timer(16384), 1)
	if it, ok := h.Get(timer(16384)); !ok || it.Seq != 16385 {
		t.Errorf("Get: %v, %v", it, ok)
	}
	if e := h.Put(timer(7), 1); e != api.ErrFull {
		t.Errorf("Put of one too many, again: %v", e)
	}
	if n := h.Drop(1); n != 16384 || h.Len() != 0 {
		t.Errorf("Drop: %d, and %d are there", n, h.Len())
	}
	mustPut(t, &h, timer(7), 1)
}

// P16.3: each one of ten is canceled, in each shape that a heap of a few ticks has.
func TestCancel(t *testing.T) {
	for _, dues := range [][]int64{
		{1, 2, 3, 4, 5, 6, 7, 8, 9, 10},
		{10, 9, 8, 7, 6, 5, 4, 3, 2, 1},
		{1, 50, 2, 60, 70, 3, 4, 80, 90, 5}, // the last one goes up from where another one was
		{5, 5, 5, 5, 5, 5, 5, 5, 5, 5},
		{2, 1, 2, 1, 2, 1, 2, 1, 2, 1},
	} {
		for i := range dues {
			h := heapOf(t, dues...)
			all := h.All()
			k := timer(int64(i + 1))
			want := Item{Key: k, Due: dues[i], Seq: uint64(i + 1)}
			if got, ok := h.Cancel(k); !ok || got != want {
				t.Errorf("Cancel of the %d of %v: %v, %v", i, dues, got, ok)
			}
			wantNone(t, h, k)
			rest := slices.DeleteFunc(all, func(it Item) bool { return it.Key == k })
			wantAll(t, h, rest...)
			if got := popped(t, h); !slices.Equal(got, rest) {
				t.Errorf("behind Cancel of the %d of %v: %v", i, dues, got)
			}
		}
	}
}

// P16.3: what isn't there isn't canceled, and nothing changes.
func TestCancelOfNone(t *testing.T) {
	h := heapOf(t, 4, 2)
	all := h.All()
	for _, k := range []Key{{}, timer(3), timer(0), timer(-1), {Run: 1, Kind: 2, ID: 1}, {Run: 2, Kind: 1, ID: 1}} {
		wantNone(t, h, k)
	}
	wantAll(t, h, all...)
}

// P16.3: those whose Due isn't above now, in order; they stay.
func TestDue(t *testing.T) {
	h := heapOf(t, 7, 3, math.MaxInt64, 5, 3, 9, math.MinInt64, 5, -2)
	all := h.All()
	for _, now := range []int64{math.MinInt64, math.MinInt64 + 1, -3, -2, -1, 0, 2, 3, 4, 5, 6, 7, 8, 9, 10, math.MaxInt64 - 1, math.MaxInt64} {
		var want []Item
		for _, it := range all {
			if it.Due <= now {
				want = append(want, it)
			}
		}
		for range 2 {
			if got := h.Due(now); !slices.Equal(got, want) {
				t.Errorf("Due(%d): %v, want %v", now, got, want)
			}
			wantAll(t, h, all...)
		}
	}
	if got := heapOf(t, 4, 6).Due(3); len(got) != 0 {
		t.Errorf("Due ahead of all: %v", got)
	}
}

// P16.4: Drop.
func TestDrop(t *testing.T) {
	runs := []int{math.MinInt, -1, 0, 1, 2, math.MaxInt}
	for _, run := range append(runs, 3) {
		var h Heap
		var rest []Item
		gone := 0
		for i := range 60 {
			it := Item{Key: Key{Run: runs[i*i%len(runs)], Kind: i % 3, ID: int64(i)}, Due: int64(i * 37 % 11), Seq: uint64(i + 1)}
			mustPut(t, &h, it.Key, it.Due)
			if it.Run == run {
				gone++
			} else {
				rest = append(rest, it)
			}
		}
		if n := h.Drop(run); n != gone {
			t.Errorf("Drop(%d): %d, want %d", run, n, gone)
		}
		wantAll(t, &h, inOrder(rest)...)
		if n := h.Drop(run); n != 0 {
			t.Errorf("Drop(%d) once more: %d", run, n)
		}
		wantAll(t, &h, inOrder(rest)...)
		if got := popped(t, &h); !slices.Equal(got, inOrder(rest)) {
			t.Errorf("behind Drop(%d): %v", run, got)
		}
	}
}

// P16.4: Right would tell of a heap that isn't as it should be.
func TestRight(t *testing.T) {
	for name, spoil := range map[string]func(*Heap){
		"one is earlier than the one above it":       func(h *Heap) { h.items[3].Due = 0 },
		"one has a lesser number than the one above": func(h *Heap) { h.items[1].Seq = 0 },
		"one stands elsewhere":                       func(h *Heap) { h.places[timer(2)] = 2 },
		"one isn't found":                            func(h *Heap) { delete(h.places, timer(4)) },
		"one is found that isn't there":              func(h *Heap) { h.places[timer(9)] = 0 },
		"one is there twice":                         func(h *Heap) { h.items = append(h.items, h.items[4]) },
	} {
		h := heapOf(t, 2, 2, 4, 3, 8)
		if !h.Right() {
			t.Fatal("Right")
		}
		if spoil(h); h.Right() {
			t.Errorf("Right, though %s", name)
		}
	}
}

// P2: what is answered is nobody else's.
func TestAnswersAreNew(t *testing.T) {
	h := heapOf(t, 6, 2, 4, 8, 1)
	want := h.All()
	for _, list := range [][]Item{h.All(), h.Due(9), h.Due(4), h.Due(0)} {
		list = list[:cap(list)]
		for i := range list {
			list[i] = Item{Due: -1}
		}
	}
	wantAll(t, h, want...)
	list, due := h.All(), h.Due(9)
	h.Pop()
	mustPut(t, h, timer(9), 0)
	h.Drop(1)
	mustPut(t, h, timer(9), 0)
	if !slices.Equal(list, want) || !slices.Equal(due, want) {
		t.Errorf("what was answered has changed: %v, %v", list, due)
	}
}
