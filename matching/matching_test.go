package matching

import (
	"math"
	"slices"
	"testing"

	"foliot/api"
	"foliot/queue"
)

// flow: the workflow task of a run. call: an activity of the run 1.
func flow(run int) queue.Task { return queue.Task{Run: run, Kind: queue.Workflow} }

func call(id int64) queue.Task { return queue.Task{Run: 1, Kind: queue.Activity, ID: id} }

func mustAdd(t *testing.T, m *Match, x queue.Task, worker int, now int64) {
	t.Helper()
	if e := m.Add(x, worker, now); e != api.OK {
		t.Fatalf("Add(%v, %d, %d): %v", x, worker, now, e)
	}
}

func mustPoll(t *testing.T, m *Match, worker, kind int, now int64) Lease {
	t.Helper()
	l, e := m.Poll(worker, kind, now)
	if e != api.OK {
		t.Fatalf("Poll(%d, %d, %d): %v", worker, kind, now, e)
	}
	return l
}

// wantPoll: a call of Poll is refused, and nothing changes.
func wantPoll(t *testing.T, m *Match, worker, kind int, now int64, want api.Errno) {
	t.Helper()
	waiting, leases, given := m.Waiting(), m.Leases(), m.Given()
	if l, e := m.Poll(worker, kind, now); e != want || l != (Lease{}) {
		t.Errorf("Poll(%d, %d, %d): %v, %v, want %v", worker, kind, now, l, e, want)
	}
	wantWaiting(t, m, waiting...)
	wantLeases(t, m, leases...)
	if m.Given() != given {
		t.Errorf("Given: %d, want %d", m.Given(), given)
	}
}

func wantWaiting(t *testing.T, m *Match, want ...queue.Task) {
	t.Helper()
	if got := m.Waiting(); !slices.Equal(got, want) {
		t.Errorf("Waiting: %v, want %v", got, want)
	}
}

func wantLeases(t *testing.T, m *Match, want ...Lease) {
	t.Helper()
	if got := m.Leases(); !slices.Equal(got, want) {
		t.Errorf("Leases: %v, want %v", got, want)
	}
}

func wantList(t *testing.T, name string, got []Lease, want ...Lease) {
	t.Helper()
	if !slices.Equal(got, want) {
		t.Errorf("%s: %v, want %v", name, got, want)
	}
}

// wantWhere: a task waits for a worker (0: for anybody).
func wantWhere(t *testing.T, m *Match, x queue.Task, worker int) {
	t.Helper()
	if got, ok := m.Where(x); !ok || got != worker || !m.Known(x) {
		t.Errorf("Where, Known(%v): %d, %v, %v, want %d", x, got, ok, m.Known(x), worker)
	}
}

// wantSince: a task waits for anybody, since a tick. No call tells that, so the queue itself is asked.
func wantSince(t *testing.T, m *Match, x queue.Task, want int64) {
	t.Helper()
	if since, ok := m.queues[0].Since(x); !ok || since != want {
		t.Errorf("%v waits for anybody: %v, since %d, want %d", x, ok, since, want)
	}
}

// wantHad: a task doesn't wait, and somebody has it, or nobody.
func wantHad(t *testing.T, m *Match, x queue.Task, had bool) {
	t.Helper()
	if got, ok := m.Where(x); ok || got != 0 || m.Known(x) != had {
		t.Errorf("Where, Known(%v): %d, %v, %v, want none, and %v", x, got, ok, m.Known(x), had)
	}
}

// The chapter's example.
func TestExample(t *testing.T) {
	var m Match
	mustAdd(t, &m, flow(1), 2, 10)
	wantPoll(t, &m, 1, queue.Workflow, 11, api.ErrMissing)
	want := Lease{Token: 1, Task: flow(1), Worker: 2, Until: 32}
	if l := mustPoll(t, &m, 2, queue.Workflow, 12); l != want {
		t.Errorf("Poll: %v, want %v", l, want)
	}
}

// The document's eighth example.
func TestExampleOfAll(t *testing.T) {
	var m Match
	mustAdd(t, &m, flow(1), 2, 10)
	m.Expire(14)
	wantPoll(t, &m, 1, queue.Workflow, 14, api.ErrMissing)
	m.Expire(15)
	if l := mustPoll(t, &m, 1, queue.Workflow, 15); l.Task != flow(1) || l.Worker != 1 {
		t.Errorf("Poll: %v", l)
	}
}

func TestNumbers(t *testing.T) {
	if StickyWait != 5 || LeaseTime != 20 || MaxLeases != 256 || MaxWorker != 64 {
		t.Errorf("StickyWait, LeaseTime, MaxLeases, MaxWorker: %d, %d, %d, %d", StickyWait, LeaseTime, MaxLeases, MaxWorker)
	}
}

// P21.1 to P21.5: the zero Match has none.
func TestEmpty(t *testing.T) {
	var m Match
	for _, n := range []int{math.MinInt, -1, 0, 1, 64, 65, math.MaxInt} {
		wantHad(t, &m, queue.Task{Run: n, Kind: n, ID: int64(n)}, false)
		if m.Cancel(queue.Task{Run: n, Kind: n, ID: int64(n)}) || m.Drop(n) != 0 || m.Done(uint64(n)) {
			t.Errorf("Cancel, Drop, Done of %d", n)
		}
		if l, e := m.Get(uint64(n), int64(n)); e != api.ErrToken || l != (Lease{}) {
			t.Errorf("Get(%d): %v, %v", n, l, e)
		}
		wantList(t, "Expire", m.Expire(int64(n)))
		wantList(t, "Lose", m.Lose(n, int64(n)))
	}
	wantPoll(t, &m, 1, 0, 0, api.ErrMissing)
	wantWaiting(t, &m)
	wantLeases(t, &m)
	if m.Given() != 0 {
		t.Errorf("Given: %d", m.Given())
	}
}

// P21.1: what waits for anybody comes first, then what waits for 1, and so on, each as it came.
func TestWaiting(t *testing.T) {
	var m Match
	for i, worker := range []int{64, 2, 0, 1, 2, 0, 63, 64, 1, 10} {
		mustAdd(t, &m, call(int64(i)), worker, int64(-i))
		wantWhere(t, &m, call(int64(i)), worker)
	}
	wantWaiting(t, &m, call(2), call(5), call(3), call(8), call(1), call(4), call(9), call(6), call(0), call(7))
	wantHad(t, &m, call(10), false)
}

// P21.1 and P21.3: what is had is known, doesn't wait, and stands where it was taken; each has the next token.
func TestLeases(t *testing.T) {
	var m Match
	for run := range 4 {
		mustAdd(t, &m, flow(run), 3-run, 0)
	}
	var want []Lease
	for i, worker := range []int{2, 1, 3, 64} {
		l := mustPoll(t, &m, worker, queue.Workflow, int64(9-i))
		want = append(want, Lease{Token: uint64(i + 1), Task: flow(3 - worker), Worker: worker, Until: int64(29 - i)})
		if worker == 64 {
			want[i].Task = flow(3)
		}
		if l != want[i] || m.Given() != uint64(i+1) {
			t.Errorf("Poll, Given: %v, %d, want %v", l, m.Given(), want[i])
		}
		wantHad(t, &m, l.Task, true)
		wantLeases(t, &m, want...)
	}
	wantWaiting(t, &m)
	if !m.Done(2) {
		t.Error("Done: false")
	}
	wantLeases(t, &m, want[0], want[2], want[3])
	mustAdd(t, &m, flow(2), 0, 0)
	if l := mustPoll(t, &m, 1, queue.Workflow, 0); l.Token != 5 || m.Given() != 5 {
		t.Errorf("Poll, Given: %v, %d", l, m.Given())
	}
}

// P21.2: the workers that there are.
func TestAddRange(t *testing.T) {
	for _, worker := range []int{math.MinInt, -1, 65, 66, 128, 256, math.MaxInt} {
		var m Match
		if e := m.Add(flow(1), worker, 3); e != api.ErrRange {
			t.Errorf("Add for %d: %v", worker, e)
		}
		wantHad(t, &m, flow(1), false)
		wantWaiting(t, &m)
	}
	var m Match
	for worker := range 65 {
		mustAdd(t, &m, flow(worker), worker, 3)
		wantWhere(t, &m, flow(worker), worker)
	}
}

// P21.2: ErrTwice of what waits, wherever, and of what is had; it comes ahead of ErrRange and ErrFull.
func TestAddTwice(t *testing.T) {
	for _, worker := range []int{0, 1, 64} {
		var m Match
		mustAdd(t, &m, flow(1), worker, 3)
		mustAdd(t, &m, flow(2), worker, 3)
		wantTwice := func() {
			t.Helper()
			for _, other := range []int{0, 1, 2, 64, -1, 65} {
				if e := m.Add(flow(1), other, 4); e != api.ErrTwice {
					t.Errorf("Add for %d of what was there for %d: %v", other, worker, e)
				}
			}
		}
		wantTwice()
		wantWhere(t, &m, flow(1), worker)
		wantWaiting(t, &m, flow(1), flow(2))
		l := mustPoll(t, &m, max(worker, 1), queue.Workflow, 0)
		wantTwice()
		wantHad(t, &m, flow(1), true)
		m.Done(l.Token)
		mustAdd(t, &m, flow(1), worker, 5)
		wantWaiting(t, &m, flow(2), flow(1))
	}
}

// fill: MaxBacklog activities that wait for a worker, at some tick; their numbers begin with this one.
func fill(t *testing.T, m *Match, worker int, from, now int64) {
	t.Helper()
	for i := range int64(128) {
		mustAdd(t, m, call(from+i), worker, now)
	}
}

// P21.2: ErrFull, of each worker by itself, and of anybody.
func TestAddFull(t *testing.T) {
	for _, worker := range []int{0, 1, 64} {
		var m Match
		fill(t, &m, worker, 0, 3)
		if e := m.Add(flow(1), worker, 3); e != api.ErrFull {
			t.Errorf("Add of one too many for %d: %v", worker, e)
		}
		wantHad(t, &m, flow(1), false)
		if e := m.Add(call(5), worker, 3); e != api.ErrTwice {
			t.Errorf("Add once more, where there is no room: %v", e)
		}
		if e := m.Add(flow(1), 65, 3); e != api.ErrRange {
			t.Errorf("Add for 65: %v", e)
		}
		mustAdd(t, &m, flow(2), (worker+1)%65, 3)
		mustPoll(t, &m, max(worker, 1), queue.Activity, 3)
		mustAdd(t, &m, flow(1), worker, 3)
		if e := m.Add(flow(3), worker, 3); e != api.ErrFull {
			t.Errorf("Add of one too many for %d, again: %v", worker, e)
		}
	}
}

// P21.3: the worker's own tasks come ahead of anybody's, of the kind alone that is asked for, the first one first; never another worker's.
func TestPoll(t *testing.T) {
	var m Match
	mustAdd(t, &m, call(1), 0, 0)
	mustAdd(t, &m, flow(1), 0, 0)
	mustAdd(t, &m, flow(2), 0, 0)
	mustAdd(t, &m, call(3), 7, 9)
	mustAdd(t, &m, flow(4), 7, 9)
	mustAdd(t, &m, flow(3), 7, 9)
	mustAdd(t, &m, flow(5), 8, 0)
	var got []queue.Task
	for range 4 {
		got = append(got, mustPoll(t, &m, 7, queue.Workflow, 1).Task)
	}
	if want := []queue.Task{flow(4), flow(3), flow(1), flow(2)}; !slices.Equal(got, want) {
		t.Errorf("Poll: %v, want %v", got, want)
	}
	wantPoll(t, &m, 7, queue.Workflow, 1, api.ErrMissing)
	wantWaiting(t, &m, call(1), call(3), flow(5))
	if l := mustPoll(t, &m, 8, queue.Activity, 1); l.Task != call(1) {
		t.Errorf("Poll: %v", l)
	}
	wantPoll(t, &m, 8, queue.Activity, 1, api.ErrMissing)
	wantWaiting(t, &m, call(3), flow(5))
}

// P21.3: kinds that are none are kinds too.
func TestPollKinds(t *testing.T) {
	kinds := []int{0, 3, -1, math.MinInt, math.MaxInt}
	var m Match
	for _, kind := range kinds {
		mustAdd(t, &m, queue.Task{Kind: kind}, 0, 0)
	}
	wantPoll(t, &m, 1, queue.Workflow, 0, api.ErrMissing)
	for _, kind := range slices.Backward(kinds) {
		if l := mustPoll(t, &m, 1, kind, 0); l.Task != (queue.Task{Kind: kind}) {
			t.Errorf("Poll of the kind %d: %v", kind, l)
		}
	}
}

// P21.3: ErrRange ahead of ErrFull, ErrFull ahead of ErrMissing.
func TestPollErrors(t *testing.T) {
	var m Match
	wrong := []int{math.MinInt, -1, 0, 65, 66, math.MaxInt}
	mustAdd(t, &m, flow(0), 0, 0)
	for _, worker := range wrong {
		wantPoll(t, &m, worker, queue.Workflow, 0, api.ErrRange)
		wantPoll(t, &m, worker, queue.Activity, 0, api.ErrRange)
	}
	for i := range 256 {
		mustAdd(t, &m, flow(i+1), 0, 0)
		if l := mustPoll(t, &m, 1+i%64, queue.Workflow, 0); l.Token != uint64(i+1) || l.Task != flow(i) {
			t.Fatalf("Poll: %v", l)
		}
	}
	for _, kind := range []int{queue.Workflow, queue.Activity} {
		wantPoll(t, &m, 1, kind, 0, api.ErrFull)
		for _, worker := range wrong {
			wantPoll(t, &m, worker, kind, 0, api.ErrRange)
		}
	}
	m.Done(100)
	wantPoll(t, &m, 1, queue.Activity, 0, api.ErrMissing)
	if l := mustPoll(t, &m, 1, queue.Workflow, 0); l.Token != 257 || l.Task != flow(256) {
		t.Errorf("Poll: %v", l)
	}
}

// P21.3: Get, up to Until.
func TestGet(t *testing.T) {
	for _, now := range []int64{0, 12, -100, -10, 1<<62 - 1, math.MinInt64, math.MaxInt64 - 20} {
		var m Match
		mustAdd(t, &m, flow(1), 0, 0)
		mustAdd(t, &m, flow(2), 0, 0)
		a, b := mustPoll(t, &m, 3, queue.Workflow, now), mustPoll(t, &m, 4, queue.Workflow, now)
		if a.Until != now+20 {
			t.Errorf("Poll at %d: %v", now, a)
		}
		for _, at := range []int64{math.MinInt64, now, now + 1, now + 19} {
			for _, want := range []Lease{a, b} {
				if got, e := m.Get(want.Token, at); e != api.OK || got != want {
					t.Errorf("Get(%d, %d): %v, %v, want %v", want.Token, at, got, e, want)
				}
			}
		}
		for _, at := range []int64{now + 20, math.MaxInt64} {
			if got, e := m.Get(a.Token, at); e != api.ErrToken || got != (Lease{}) {
				t.Errorf("Get(%d, %d): %v, %v", a.Token, at, got, e)
			}
		}
		for _, token := range []uint64{0, 3, math.MaxUint64} {
			if got, e := m.Get(token, now); e != api.ErrToken || got != (Lease{}) {
				t.Errorf("Get(%d, %d): %v, %v", token, now, got, e)
			}
		}
		wantLeases(t, &m, a, b) // whoever asked too late, it is had until Expire
	}
}

// P21.3: Done, once, whenever it is.
func TestDone(t *testing.T) {
	for token := range uint64(5) {
		var m Match
		var want []Lease
		for i := range 3 {
			mustAdd(t, &m, flow(i), 0, 0)
			want = append(want, mustPoll(t, &m, 1, queue.Workflow, int64(-100*i)))
		}
		want = slices.DeleteFunc(want, func(l Lease) bool { return l.Token == token })
		if got := m.Done(token); got != (len(want) < 3) {
			t.Errorf("Done(%d): %v", token, got)
		}
		wantLeases(t, &m, want...)
		if m.Done(token) {
			t.Errorf("Done(%d) once more: true", token)
		}
		if l, e := m.Get(token, -1000); e != api.ErrToken {
			t.Errorf("Get(%d): %v, %v", token, l, e)
		}
		wantLeases(t, &m, want...)
		wantHad(t, &m, flow(1), token != 2)
	}
}

// P21.4: what waited for its worker for StickyWait ticks waits for anybody, since then; no tick is too far from another one.
func TestExpireWaiting(t *testing.T) {
	for _, x := range []struct {
		since, now int64
		freed      bool
	}{
		{10, 10, false}, {10, 14, false}, {10, 15, true}, {10, 16, true}, {10, 9, false}, {10, 0, false},
		{0, 4, false}, {0, 5, true}, {-3, 1, false}, {-3, 2, true},
		{math.MinInt64, math.MaxInt64, true}, {math.MaxInt64, math.MinInt64, false},
		{-1, math.MaxInt64, true}, {math.MinInt64, 0, true}, {math.MinInt64, math.MinInt64 + 4, false}, {math.MinInt64, math.MinInt64 + 5, true},
		{math.MaxInt64 - 4, math.MaxInt64, false}, {math.MaxInt64 - 5, math.MaxInt64, true}, {1, math.MinInt64, false},
	} {
		for _, worker := range []int{1, 30, 64} {
			var m Match
			mustAdd(t, &m, flow(1), worker, x.since)
			wantList(t, "Expire", m.Expire(x.now))
			if x.freed {
				worker = 0
			}
			wantWhere(t, &m, flow(1), worker)
		}
	}
}

// P21.4: worker by worker, behind what waits for anybody already, in their order, each by its own tick.
func TestExpireOrder(t *testing.T) {
	var m Match
	mustAdd(t, &m, call(1), 2, 1)
	mustAdd(t, &m, call(2), 64, 0)
	mustAdd(t, &m, call(3), 1, 3)
	mustAdd(t, &m, call(4), 2, 8)
	mustAdd(t, &m, call(5), 2, 2)
	mustAdd(t, &m, call(6), 0, 0)
	mustAdd(t, &m, call(7), 1, 4)
	m.Expire(8)
	wantWaiting(t, &m, call(6), call(3), call(1), call(5), call(2), call(7), call(4))
	for _, x := range []struct {
		id     int64
		worker int
	}{{6, 0}, {3, 0}, {1, 0}, {5, 0}, {2, 0}, {7, 1}, {4, 2}} {
		wantWhere(t, &m, call(x.id), x.worker)
	}
	wantSince(t, &m, call(6), 0)
	wantSince(t, &m, call(3), 8)
	wantSince(t, &m, call(5), 8)
}

// P21.4: as far as there is room; the others stay, since when they waited, and come behind that.
func TestExpireRoom(t *testing.T) {
	var m Match
	fill(t, &m, 0, 1000, 0)
	m.Cancel(call(1000))
	m.Cancel(call(1001))
	for i, worker := range []int{5, 3, 5, 3, 7} {
		mustAdd(t, &m, call(int64(i)), worker, 0)
	}
	rest := m.Waiting()[:126]
	m.Expire(5)
	wantWaiting(t, &m, append(slices.Clone(rest), call(1), call(3), call(0), call(2), call(4))...)
	wantWhere(t, &m, call(0), 5)
	wantWhere(t, &m, call(3), 0)
	m.Cancel(call(1002))
	m.Cancel(call(1003))
	m.Expire(4) // what stayed still waits since 0
	wantWhere(t, &m, call(0), 5)
	m.Expire(5)
	wantWaiting(t, &m, append(slices.Clone(rest[2:]), call(1), call(3), call(0), call(2), call(4))...)
	wantWhere(t, &m, call(0), 0)
	wantWhere(t, &m, call(2), 0)
	wantWhere(t, &m, call(4), 7)
}

// P21.4: tasks whose Until isn't above now are had no more, and don't wait again.
func TestExpireLeases(t *testing.T) {
	var m Match
	var all []Lease
	for i, now := range []int64{7, 3, 9, 3, 8} {
		mustAdd(t, &m, flow(i), 0, 0)
		all = append(all, mustPoll(t, &m, 5-i, queue.Workflow, now))
	}
	wantList(t, "Expire(22)", m.Expire(22))
	wantLeases(t, &m, all...)
	wantList(t, "Expire(27)", m.Expire(27), all[0], all[1], all[3])
	wantLeases(t, &m, all[2], all[4])
	wantHad(t, &m, flow(0), false)
	wantHad(t, &m, flow(2), true)
	wantWaiting(t, &m)
	wantList(t, "Expire(27) once more", m.Expire(27))
	wantList(t, "Expire of the last tick", m.Expire(math.MaxInt64), all[2], all[4])
	wantLeases(t, &m)
	if m.Given() != 5 {
		t.Errorf("Given: %d", m.Given())
	}
}

// P21.5: a worker's tasks wait for anybody, since then, however long they waited; what it had is told; the other workers' stay.
func TestLose(t *testing.T) {
	var m Match
	for i, worker := range []int{2, 3, 2, 3} {
		mustAdd(t, &m, flow(i), worker, 0)
	}
	a, b, c := mustPoll(t, &m, 2, queue.Workflow, 5), mustPoll(t, &m, 3, queue.Workflow, 5), mustPoll(t, &m, 2, queue.Workflow, 1)
	mustAdd(t, &m, call(1), 0, 0)
	mustAdd(t, &m, call(2), 2, 9)
	mustAdd(t, &m, call(3), 3, 0)
	mustAdd(t, &m, call(4), 2, 0)
	wantList(t, "Lose(2)", m.Lose(2, 9), a, c)
	wantLeases(t, &m, b)
	wantWaiting(t, &m, call(1), call(2), call(4), flow(3), call(3))
	wantSince(t, &m, call(1), 0)
	wantSince(t, &m, call(4), 9)
	wantWhere(t, &m, call(4), 0)
	wantWhere(t, &m, call(3), 3)
	wantHad(t, &m, a.Task, false)
	wantList(t, "Lose(2) once more", m.Lose(2, 9))
	mustAdd(t, &m, call(5), 2, 0)
	wantWhere(t, &m, call(5), 2)
}

// P21.5: as far as there is room; the others are gone.
func TestLoseRoom(t *testing.T) {
	var m Match
	fill(t, &m, 0, 1000, 0)
	m.Cancel(call(1000))
	rest := m.Waiting()
	mustAdd(t, &m, call(9), 4, 0)
	for i := range int64(3) {
		mustAdd(t, &m, call(i), 6, 0)
	}
	wantList(t, "Lose", m.Lose(6, 0))
	wantWaiting(t, &m, append(slices.Clone(rest), call(0), call(9))...)
	wantWhere(t, &m, call(0), 0)
	wantHad(t, &m, call(1), false)
	wantHad(t, &m, call(2), false)
	wantList(t, "Lose", m.Lose(4, 0))
	wantWaiting(t, &m, append(slices.Clone(rest), call(0))...)
	mustAdd(t, &m, call(1), 6, 0)
}

// P21.5: of a worker that isn't, nothing is lost; what waits for anybody stays as it is.
func TestLoseOfNone(t *testing.T) {
	var m Match
	mustAdd(t, &m, flow(1), 1, 0)
	l := mustPoll(t, &m, 1, queue.Workflow, 0)
	mustAdd(t, &m, flow(2), 0, 0)
	mustAdd(t, &m, flow(3), 64, 0)
	for _, worker := range []int{math.MinInt, -64, -1, 0, 65, 66, math.MaxInt} {
		wantList(t, "Lose", m.Lose(worker, 9))
		wantWaiting(t, &m, flow(2), flow(3))
		wantLeases(t, &m, l)
	}
	wantList(t, "Lose(64)", m.Lose(64, 9))
	wantWhere(t, &m, flow(3), 0)
	wantList(t, "Lose(1)", m.Lose(1, 9), l)
}

// several: tasks of the runs 1 and 2, that wait for anybody or for workers, or are had.
func several(t *testing.T) *Match {
	t.Helper()
	m := &Match{}
	mustAdd(t, m, flow(1), 0, 0)
	mustAdd(t, m, flow(2), 0, 0)
	mustPoll(t, m, 9, queue.Workflow, 0)
	mustPoll(t, m, 8, queue.Workflow, 0)
	for i, worker := range []int{0, 1, 64, 1} {
		mustAdd(t, m, call(int64(i)), worker, 0)
		mustAdd(t, m, queue.Task{Run: 2, Kind: queue.Activity, ID: int64(i)}, worker, 0)
	}
	return m
}

// P21.5: Drop counts what waits, and what is had.
func TestDrop(t *testing.T) {
	for _, run := range []int{1, 2, 0, 3, -1} {
		m := several(t)
		stays := func(x queue.Task) bool { return x.Run != run }
		var waiting []queue.Task
		for _, x := range m.Waiting() {
			if stays(x) {
				waiting = append(waiting, x)
			}
		}
		var leases []Lease
		for _, l := range m.Leases() {
			if stays(l.Task) {
				leases = append(leases, l)
			}
		}
		for _, want := range []int{10 - len(waiting) - len(leases), 0} {
			if n := m.Drop(run); n != want {
				t.Errorf("Drop(%d): %d, want %d", run, n, want)
			}
			wantWaiting(t, m, waiting...)
			wantLeases(t, m, leases...)
		}
	}
}

// P21.5: Cancel, of what waits, and of what is had.
func TestCancel(t *testing.T) {
	all := several(t)
	known := all.Waiting()
	for _, l := range all.Leases() {
		known = append(known, l.Task)
	}
	if len(known) != 10 {
		t.Fatalf("%d are known", len(known))
	}
	for _, x := range known {
		m := several(t)
		if !m.Cancel(x) {
			t.Errorf("Cancel(%v): false", x)
		}
		wantHad(t, m, x, false)
		waiting := slices.DeleteFunc(all.Waiting(), func(o queue.Task) bool { return o == x })
		leases := slices.DeleteFunc(all.Leases(), func(l Lease) bool { return l.Task == x })
		for range 2 {
			wantWaiting(t, m, waiting...)
			wantLeases(t, m, leases...)
			if m.Cancel(x) {
				t.Errorf("Cancel(%v) once more: true", x)
			}
		}
		mustAdd(t, m, x, 5, 0)
	}
	for _, x := range []queue.Task{{}, {Run: 1}, {Run: 1, Kind: queue.Workflow, ID: 1}, {Run: 3, Kind: queue.Activity}, call(4)} {
		if all.Cancel(x) {
			t.Errorf("Cancel(%v): true", x)
		}
	}
	wantWaiting(t, all, several(t).Waiting()...)
	wantLeases(t, all, several(t).Leases()...)
}

// P2: what is answered is nobody else's.
func TestAnswersAreNew(t *testing.T) {
	m := several(t)
	waiting, leases := m.Waiting(), m.Leases()
	for _, list := range [][]Lease{m.Leases(), m.Leases()} {
		list = list[:cap(list)]
		for i := range list {
			list[i] = Lease{Token: 99}
		}
	}
	for _, list := range [][]queue.Task{m.Waiting(), m.Waiting()} {
		list = list[:cap(list)]
		for i := range list {
			list[i] = queue.Task{Run: 99}
		}
	}
	wantWaiting(t, m, waiting...)
	wantLeases(t, m, leases...)
	ended := m.Lose(9, 0)
	ended[0].Token = 99
	wantLeases(t, m, leases[1])
	ended = m.Expire(20)
	ended[0].Token = 99
	m.Drop(1)
	mustPoll(t, m, 1, queue.Activity, 0)
	if want := several(t); !slices.Equal(waiting, want.Waiting()) || !slices.Equal(leases, want.Leases()) {
		t.Errorf("what was answered has changed: %v, %v", waiting, leases)
	}
}
