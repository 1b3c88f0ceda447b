package queue

import (
	"math/rand"
	"slices"
	"testing"

	"foliot/api"
)

// told is tasks that wait, as layer 20's words tell of them: a list, looked through from end to end.
type told []waiter

func (m told) where(x Task) int {
	return slices.IndexFunc(m, func(w waiter) bool {
		return w.task.Run == x.Run && w.task.Kind == x.Kind && w.task.ID == x.ID
	})
}

func (m *told) add(x Task, now int64) api.Errno {
	switch {
	case m.where(x) >= 0:
		return api.ErrTwice
	case len(*m) >= 128:
		return api.ErrFull
	}
	*m = append(*m, waiter{x, now})
	return api.OK
}

func (m *told) remove(x Task) bool {
	i := m.where(x)
	if i >= 0 {
		*m = slices.Delete(*m, i, i+1)
	}
	return i >= 0
}

func (m *told) take() (Task, bool) {
	if len(*m) == 0 {
		return Task{}, false
	}
	x := (*m)[0].task
	return x, m.remove(x)
}

func (m *told) drop(run int) int {
	n := len(*m)
	*m = slices.DeleteFunc(*m, func(w waiter) bool { return w.task.Run == run })
	return n - len(*m)
}

// P1 and P20.1 to P20.3: steps by chance, of few tasks and of many, against the document's words.
func TestSteps(t *testing.T) {
	r := rand.New(rand.NewSource(20))
	for _, ids := range []int64{2, 5, 40, 400} {
		for range 10 {
			q, m := &Queue{}, &told{}
			for range 600 {
				step(t, r, q, m, ids)
				wantAll(t, q, *m...)
			}
		}
	}
}

// step: one call of a queue and of what is told of it.
func step(t *testing.T, r *rand.Rand, q *Queue, m *told, ids int64) {
	t.Helper()
	x, now := Task{Run: r.Intn(3) - 1, Kind: r.Intn(3), ID: r.Int63n(ids)}, r.Int63n(9)-2
	switch r.Intn(10) {
	case 0, 1:
		if got, want := q.Remove(x), m.remove(x); got != want {
			t.Fatalf("Remove(%v): %v, want %v", x, got, want)
		}
	case 2:
		got, ok := q.Take()
		if want, has := m.take(); got != want || ok != has {
			t.Fatalf("Take: %v, %v, want %v, %v", got, ok, want, has)
		}
	case 3:
		if r.Intn(20) > 0 {
			return
		}
		if got, want := q.Drop(x.Run), m.drop(x.Run); got != want {
			t.Fatalf("Drop(%d): %d, want %d", x.Run, got, want)
		}
	default:
		if got, want := q.Add(x, now), m.add(x, now); got != want {
			t.Fatalf("Add(%v, %d): %v, want %v", x, now, got, want)
		}
	}
}
