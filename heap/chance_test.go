package heap

import (
	"math/rand"
	"slices"
	"testing"

	"foliot/api"
)

// told is things as layer 16's words tell of them: a list, looked through from end to end.
type told struct {
	list []Item
	last uint64
}

func (m *told) where(k Key) int {
	return slices.IndexFunc(m.list, func(it Item) bool { return it.Run == k.Run && it.Kind == k.Kind && it.ID == k.ID })
}

func (m *told) put(k Key, due int64) api.Errno {
	if m.where(k) >= 0 {
		return api.ErrTwice
	}
	if len(m.list) == 16384 {
		return api.ErrFull
	}
	m.last++
	m.list = append(m.list, Item{k, due, m.last})
	return api.OK
}

func (m *told) cancel(k Key) (Item, bool) {
	i := m.where(k)
	if i < 0 {
		return Item{}, false
	}
	it := m.list[i]
	m.list = slices.Delete(m.list, i, i+1)
	return it, true
}

func (m *told) pop() (Item, bool) {
	all := inOrder(m.list)
	if len(all) == 0 {
		return Item{}, false
	}
	return m.cancel(all[0].Key)
}

func (m *told) drop(run int) int {
	before := len(m.list)
	m.list = slices.DeleteFunc(m.list, func(it Item) bool { return it.Run == run })
	return before - len(m.list)
}

// P1 and P16.1 to P16.4: steps by chance, of few keys and ticks, against the document's words.
func TestSteps(t *testing.T) {
	r := rand.New(rand.NewSource(16))
	for round := range 80 {
		h, m := &Heap{}, &told{}
		span := 1 + int64(round%7)*3
		for range 300 {
			step(t, r, h, m, span)
			wantAll(t, h, inOrder(m.list)...)
		}
	}
}

// step: one call of a heap and of what is told of it.
func step(t *testing.T, r *rand.Rand, h *Heap, m *told, span int64) {
	t.Helper()
	k, due := Key{Run: r.Intn(4) - 1, Kind: r.Intn(3), ID: r.Int63n(3)}, r.Int63n(span)-1
	switch r.Intn(12) {
	case 0, 1, 2:
		got, ok := h.Cancel(k)
		if want, has := m.cancel(k); got != want || ok != has {
			t.Fatalf("Cancel(%v): %v, %v, want %v, %v", k, got, ok, want, has)
		}
	case 3:
		got, ok := h.Pop()
		if want, has := m.pop(); got != want || ok != has {
			t.Fatalf("Pop: %v, %v, want %v, %v", got, ok, want, has)
		}
	case 4:
		want := slices.DeleteFunc(inOrder(m.list), func(it Item) bool { return it.Due > due })
		if got := h.Due(due); !slices.Equal(got, want) {
			t.Fatalf("Due(%d): %v, want %v", due, got, want)
		}
	case 5:
		if r.Intn(4) > 0 {
			return
		}
		if got, want := h.Drop(k.Run), m.drop(k.Run); got != want {
			t.Fatalf("Drop(%d): %d, want %d", k.Run, got, want)
		}
	default:
		if got, want := h.Put(k, due), m.put(k, due); got != want {
			t.Fatalf("Put(%v, %d): %v, want %v", k, due, got, want)
		}
	}
}

// P16.1 and P16.3: a full heap, put and popped in order.
func TestMany(t *testing.T) {
	r := rand.New(rand.NewSource(17))
	h := &Heap{}
	for i := range int64(MaxItems) {
		mustPut(t, h, timer(i), r.Int63n(4000))
	}
	for i := range int64(MaxItems) {
		if i%3 == 0 {
			h.Cancel(timer(i))
		}
	}
	if !h.Right() {
		t.Fatal("Right")
	}
	var last Item
	for n := h.Len(); n > 0; n-- {
		it, ok := h.Pop()
		if !ok || it.Due < last.Due || it.Due == last.Due && it.Seq <= last.Seq || h.Len() != n-1 {
			t.Fatalf("Pop: %v, %v behind %v", it, ok, last)
		}
		last = it
	}
	wantAll(t, h)
}
