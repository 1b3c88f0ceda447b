package queue

import (
	"math"
	"slices"
	"testing"

	"foliot/api"
)

// call: an activity of the run 1, told apart by its number alone.
func call(id int64) Task { return Task{Run: 1, Kind: Activity, ID: id} }

func mustAdd(t *testing.T, q *Queue, x Task, now int64) {
	t.Helper()
	if e := q.Add(x, now); e != api.OK {
		t.Fatalf("Add(%v, %d): %v", x, now, e)
	}
}

// queueOf: a queue to which activities were added, with the numbers 1, 2 and so on, at these ticks.
func queueOf(t *testing.T, ticks ...int64) *Queue {
	t.Helper()
	q := &Queue{}
	for i, now := range ticks {
		mustAdd(t, q, call(int64(i+1)), now)
	}
	return q
}

// waiters: what waits, as List and Since tell it.
func waiters(q *Queue) []waiter {
	var list []waiter
	for _, x := range q.List() {
		since, _ := q.Since(x)
		list = append(list, waiter{x, since})
	}
	return list
}

// wantAll: all that waits, in order, and what else tells of it.
func wantAll(t *testing.T, q *Queue, want ...waiter) {
	t.Helper()
	if got := waiters(q); !slices.Equal(got, want) {
		t.Errorf("List and Since: %v, want %v", got, want)
	}
	if q.Len() != len(want) {
		t.Errorf("Len: %d, want %d", q.Len(), len(want))
	}
	for _, w := range want {
		since, ok := q.Since(w.task)
		if !q.Has(w.task) || !ok || since != w.since {
			t.Errorf("Has, Since(%v): %v, %d, %v, want since %d", w.task, q.Has(w.task), since, ok, w.since)
		}
	}
	first, some := waiter{}, len(want) > 0
	if some {
		first = want[0]
	}
	if x, since, ok := q.First(); ok != some || (waiter{x, since}) != first {
		t.Errorf("First: %v, %d, %v, want %v, %v", x, since, ok, first, some)
	}
	wantBackwards(t, q, want)
}

// wantBackwards: the chain hangs together from its end, too.
func wantBackwards(t *testing.T, q *Queue, want []waiter) {
	t.Helper()
	var list []waiter
	for l := q.last; l != nil; l = l.ahead {
		list = append(list, l.thing)
	}
	slices.Reverse(list)
	if !slices.Equal(list, want) {
		t.Errorf("from the end: %v, want %v", list, want)
	}
}

// wantNone: such a task doesn't wait.
func wantNone(t *testing.T, q *Queue, x Task) {
	t.Helper()
	since, ok := q.Since(x)
	if q.Has(x) || ok || since != 0 {
		t.Errorf("Has, Since(%v): %v, %d, %v", x, q.Has(x), since, ok)
	}
	if q.Remove(x) {
		t.Errorf("Remove(%v): true", x)
	}
}

// taken: all, as they are taken.
func taken(t *testing.T, q *Queue) []waiter {
	t.Helper()
	var list []waiter
	for n := q.Len(); n > 0; n-- {
		first, since, _ := q.First()
		x, ok := q.Take()
		if !ok || x != first || q.Len() != n-1 {
			t.Fatalf("Take: %v, %v behind First's %v; %d wait", x, ok, first, q.Len())
		}
		wantNone(t, q, x)
		list = append(list, waiter{x, since})
	}
	return list
}

// The chapter's example.
func TestExample(t *testing.T) {
	var q Queue
	mustAdd(t, &q, Task{Run: 1, Kind: Workflow}, 3)
	mustAdd(t, &q, Task{Run: 2, Kind: Workflow}, 4)
	if x, since, ok := q.First(); !ok || since != 3 || x != (Task{Run: 1, Kind: Workflow}) {
		t.Errorf("First: %v, %d, %v", x, since, ok)
	}
}

func TestNumbers(t *testing.T) {
	if MaxBacklog != 128 || Workflow != 1 || Activity != 2 {
		t.Errorf("MaxBacklog, Workflow, Activity: %d, %d, %d", MaxBacklog, Workflow, Activity)
	}
}

// P20.1 to P20.3: the zero queue has none, and an emptied one is like it.
func TestEmpty(t *testing.T) {
	var q Queue
	for range 3 {
		wantAll(t, &q)
		wantNone(t, &q, Task{})
		if x, ok := q.Take(); ok || x != (Task{}) {
			t.Errorf("Take: %v, %v", x, ok)
		}
		if n := q.Drop(0); n != 0 {
			t.Errorf("Drop: %d", n)
		}
		mustAdd(t, &q, Task{}, 5)
		wantAll(t, &q, waiter{Task{}, 5})
		q.Take()
	}
}

// P20.1: two tasks are one if all their fields are the same.
func TestOneTask(t *testing.T) {
	var tasks []Task
	for _, run := range []int{math.MinInt, -1, 0, 1, math.MaxInt} {
		for _, kind := range []int{math.MinInt, 0, 1, 2, math.MaxInt} {
			for _, id := range []int64{math.MinInt64, 0, 1, 2, math.MaxInt64} {
				tasks = append(tasks, Task{Run: run, Kind: kind, ID: id})
			}
		}
	}
	var q Queue
	var want []waiter
	for i, x := range tasks {
		wantNone(t, &q, x)
		mustAdd(t, &q, x, int64(i))
		want = append(want, waiter{x, int64(i)})
		if e := q.Add(x, -1); e != api.ErrTwice {
			t.Errorf("Add(%v) once more: %v", x, e)
		}
	}
	wantAll(t, &q, want...)
	for i, x := range tasks {
		if !q.Remove(x) {
			t.Errorf("Remove(%v): false", x)
		}
		wantNone(t, &q, x)
		wantAll(t, &q, want[i+1:]...)
	}
}

// P20.1 and P20.2: tasks wait in the order in which they were added, since any tick, whichever that is.
func TestOrder(t *testing.T) {
	ticks := []int64{9, 3, 3, math.MaxInt64, math.MinInt64, 0, -1, 9}
	var want []waiter
	for i, now := range ticks {
		want = append(want, waiter{call(int64(i + 1)), now})
	}
	q := queueOf(t, ticks...)
	wantAll(t, q, want...)
	if got := taken(t, q); !slices.Equal(got, want) {
		t.Errorf("taken: %v, want %v", got, want)
	}
	wantAll(t, q)
}

// P20.2: who waits isn't added once more; who is gone is added behind the others.
func TestTwice(t *testing.T) {
	q := queueOf(t, 7, 8)
	for _, now := range []int64{6, 7, 9, 0, math.MaxInt64} {
		if e := q.Add(call(1), now); e != api.ErrTwice {
			t.Errorf("Add once more, at %d: %v", now, e)
		}
	}
	wantAll(t, q, waiter{call(1), 7}, waiter{call(2), 8})
	q.Take()
	mustAdd(t, q, call(1), 4)
	wantAll(t, q, waiter{call(2), 8}, waiter{call(1), 4})
	q.Remove(call(2))
	mustAdd(t, q, call(2), 1)
	wantAll(t, q, waiter{call(1), 4}, waiter{call(2), 1})
	q.Drop(1)
	mustAdd(t, q, call(2), 2)
	wantAll(t, q, waiter{call(2), 2})
}

// fullQueue: MaxBacklog activities, at the ticks that are their numbers, and these.
func fullQueue(t *testing.T) (*Queue, []waiter) {
	t.Helper()
	q := &Queue{}
	for i := range int64(128) {
		mustAdd(t, q, call(i), i)
	}
	return q, waiters(q)
}

// P20.2: ErrFull, and ErrTwice ahead of it.
func TestFull(t *testing.T) {
	q, all := fullQueue(t)
	if e := q.Add(call(128), 1); e != api.ErrFull {
		t.Errorf("Add of one too many: %v", e)
	}
	for _, x := range []Task{call(0), call(64), call(127)} {
		if e := q.Add(x, 1); e != api.ErrTwice {
			t.Errorf("Add(%v) once more, where there is no room: %v", x, e)
		}
	}
	wantNone(t, q, call(128))
	wantAll(t, q, all...)
}

// P20.2 and P20.3: there is room for as many as have left.
func TestRoom(t *testing.T) {
	for name, leave := range map[string]func(*Queue) bool{
		"Take":   func(q *Queue) bool { _, ok := q.Take(); return ok },
		"Remove": func(q *Queue) bool { return q.Remove(call(0)) },
	} {
		q, all := fullQueue(t)
		if !leave(q) {
			t.Errorf("%s: false", name)
		}
		mustAdd(t, q, call(200), 3)
		if e := q.Add(call(201), 3); e != api.ErrFull {
			t.Errorf("behind %s, Add of one too many: %v", name, e)
		}
		wantAll(t, q, append(all[1:], waiter{call(200), 3})...)
	}
	q, all := fullQueue(t)
	if n := q.Drop(1); n != 128 {
		t.Errorf("Drop: %d", n)
	}
	for _, w := range all {
		mustAdd(t, q, w.task, w.since)
	}
	if e := q.Add(call(128), 1); e != api.ErrFull {
		t.Errorf("behind Drop, Add of one too many: %v", e)
	}
	wantAll(t, q, all...)
}

// P20.3: each one of a few is removed, and the others stay as they were.
func TestRemove(t *testing.T) {
	ticks := []int64{5, 4, 3, 2, 1}
	for i := range ticks {
		for j := range ticks {
			q := queueOf(t, ticks...)
			rest := waiters(q)
			for _, x := range []Task{call(int64(i + 1)), call(int64(j + 1))} {
				at := slices.IndexFunc(rest, func(w waiter) bool { return w.task == x })
				if q.Remove(x) != (at >= 0) {
					t.Errorf("Remove(%v): %v", x, at < 0)
				}
				if at >= 0 {
					rest = slices.Delete(rest, at, at+1)
				}
				wantNone(t, q, x)
				wantAll(t, q, rest...)
			}
			mustAdd(t, q, call(9), 9)
			if got := taken(t, q); !slices.Equal(got, append(rest, waiter{call(9), 9})) {
				t.Errorf("behind Remove of %d and %d: %v", i, j, got)
			}
		}
	}
}

// P20.3: what doesn't wait isn't removed, and nothing changes.
func TestRemoveOfNone(t *testing.T) {
	q := queueOf(t, 4, 2)
	all := waiters(q)
	for _, x := range []Task{{}, call(3), call(0), call(-1), {Run: 1, Kind: 1, ID: 1}, {Run: 2, Kind: 2, ID: 1}} {
		wantNone(t, q, x)
	}
	wantAll(t, q, all...)
}

// P20.3: Drop.
func TestDrop(t *testing.T) {
	runs := []int{math.MinInt, -1, 0, 1, 2, math.MaxInt}
	for _, run := range append(runs, 3) {
		var q Queue
		var rest []waiter
		gone := 0
		for i := range 60 {
			w := waiter{Task{Run: runs[i*i%len(runs)], Kind: i % 3, ID: int64(i)}, int64(i * 37 % 11)}
			mustAdd(t, &q, w.task, w.since)
			if w.task.Run == run {
				gone++
			} else {
				rest = append(rest, w)
			}
		}
		for _, want := range []int{gone, 0} {
			if n := q.Drop(run); n != want {
				t.Errorf("Drop(%d): %d, want %d", run, n, want)
			}
			wantAll(t, &q, rest...)
		}
		if got := taken(t, &q); !slices.Equal(got, rest) {
			t.Errorf("behind Drop(%d): %v", run, got)
		}
	}
}

// P2: what is answered is nobody else's.
func TestAnswersAreNew(t *testing.T) {
	q := queueOf(t, 6, 2, 4)
	want := waiters(q)
	a, b := q.List(), q.List()
	a = a[:cap(a)]
	for i := range a {
		a[i] = Task{Run: -1}
	}
	if !slices.Equal(b, []Task{call(1), call(2), call(3)}) {
		t.Errorf("another answer has changed: %v", b)
	}
	wantAll(t, q, want...)
	q.Take()
	mustAdd(t, q, call(9), 0)
	q.Drop(1)
	if !slices.Equal(b, []Task{call(1), call(2), call(3)}) {
		t.Errorf("what was answered has changed: %v", b)
	}
}
