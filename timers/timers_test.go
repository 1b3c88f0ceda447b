package timers

import (
	"math"
	"reflect"
	"slices"
	"testing"

	"foliot/api"
	"foliot/heap"
	"foliot/value"
)

const last = 1<<62 - 1 // the last tick

// begun: a run-started at a tick, with so many ticks to go on; 0: with any number.
func begun(time, ticks int64) api.Event {
	return api.Event{ID: 1, Time: time, Kind: api.RunStarted, A: ticks, B: 3, Name: "p", Value: value.Of(5)}
}

func started(id, due int64) api.Event {
	return api.Event{ID: 2, Time: 4, Kind: api.TimerStarted, A: id, B: due}
}

func fired(id int64) api.Event {
	return api.Event{ID: 3, Time: 5, Kind: api.TimerFired, A: id}
}

func canceled(id int64) api.Event {
	return api.Event{ID: 3, Time: 5, Kind: api.TimerCanceled, A: id}
}

// timerAt, deadlineAt: what List tells of a timer and of a deadline.
func timerAt(run int, id, due int64) heap.Item {
	return heap.Item{Key: heap.Key{Run: run, Kind: 1, ID: id}, Due: due}
}

func deadlineAt(run int, due int64) heap.Item {
	return heap.Item{Key: heap.Key{Run: run, Kind: 2}, Due: due}
}

// firing, timedOut: what Fires tells of a timer and of a deadline.
func firing(run int, id, now int64) Fire {
	return Fire{Run: run, Event: api.Event{Time: now, Kind: api.TimerFired, A: id}}
}

func timedOut(run int, now int64) Fire {
	return Fire{Run: run, Event: api.Event{Time: now, Kind: api.RunTimedOut}}
}

func apply(t *testing.T, q *Queue, run int, list ...api.Event) {
	t.Helper()
	for _, e := range list {
		if code := q.Apply(run, e); code != api.OK {
			t.Fatalf("Apply(%d, %+v): %v", run, e, code)
		}
	}
}

// wantList: all that waits, in order, and what else tells of it.
func wantList(t *testing.T, q *Queue, want ...heap.Item) {
	t.Helper()
	if got := q.List(); !slices.Equal(got, want) {
		t.Errorf("List: %v, want %v", got, want)
	}
	if q.Len() != len(want) || !q.Right() {
		t.Errorf("Len, Right: %d, %v, want %d, true", q.Len(), q.Right(), len(want))
	}
	next, some := int64(0), len(want) > 0
	if some {
		next = want[0].Due
	}
	if due, ok := q.Next(); due != next || ok != some {
		t.Errorf("Next: %d, %v, want %d, %v", due, ok, next, some)
	}
	for _, it := range want {
		if it.Kind == 1 && !q.Open(it.Run, it.ID) {
			t.Errorf("Open(%d, %d): false", it.Run, it.ID)
		}
	}
}

func wantFires(t *testing.T, q *Queue, now int64, want ...Fire) {
	t.Helper()
	ahead := q.All()
	for range 2 {
		got := q.Fires(now)
		if len(got) != len(want) || len(got) > 0 && !reflect.DeepEqual(got, want) {
			t.Errorf("Fires(%d): %+v, want %+v", now, got, want)
		}
	}
	if !slices.Equal(q.All(), ahead) || !q.Right() {
		t.Errorf("Fires(%d) has changed something", now)
	}
}

// The chapter's example.
func TestExample(t *testing.T) {
	var q Queue
	apply(t, &q, 1, begun(2, 10), started(1, 7))
	wantFires(t, &q, 12, firing(1, 1, 12), timedOut(1, 12))
}

func TestEmpty(t *testing.T) {
	var q Queue
	wantList(t, &q)
	wantFires(t, &q, math.MaxInt64)
	if q.Open(0, 0) || q.Open(1, 1) {
		t.Error("Open")
	}
	if Timer != 1 || Deadline != 2 {
		t.Errorf("Timer, Deadline: %d, %d", Timer, Deadline)
	}
}

// P17.1: a run's deadline.
func TestDeadline(t *testing.T) {
	for _, x := range []struct{ time, ticks, due int64 }{
		{0, 1, 1},
		{2, 10, 12},
		{7, last, last},
		{last - 5, 4, last - 1},
		{last - 5, 5, last},
		{last - 5, 6, last},
		{last, 1, last},
		{last, math.MaxInt64, last},
		{0, math.MaxInt64, last},
		{math.MaxInt64, math.MaxInt64, last},
		{-1, 5, 0},
		{math.MinInt64, math.MaxInt64, 0},
	} {
		var q Queue
		apply(t, &q, 7, begun(x.time, x.ticks))
		wantList(t, &q, deadlineAt(7, x.due))
		if q.Open(7, 0) {
			t.Error("a deadline is no timer")
		}
		if it, ok := q.Get(heap.Key{Run: 7, Kind: Deadline}); !ok || it.Due != x.due || it.Seq != 1 {
			t.Errorf("Get: %v, %v", it, ok)
		}
	}
	for _, ticks := range []int64{0, -1, math.MinInt64} {
		var q Queue
		apply(t, &q, 7, begun(2, ticks))
		wantList(t, &q)
	}
}

// P17.1: timers, whatever their numbers and ticks; when they were started doesn't count.
func TestTimers(t *testing.T) {
	var q Queue
	apply(t, &q, 1, started(1, 9), started(2, 5), started(0, 7), started(math.MaxInt64, math.MaxInt64))
	apply(t, &q, -2, started(1, 9), started(-1, -5))
	wantList(t, &q, timerAt(-2, -1, -5), timerAt(1, 2, 5), timerAt(1, 0, 7), timerAt(-2, 1, 9), timerAt(1, 1, 9), timerAt(1, math.MaxInt64, math.MaxInt64))
	apply(t, &q, 1, fired(2), canceled(0))
	apply(t, &q, -2, canceled(1))
	wantList(t, &q, timerAt(-2, -1, -5), timerAt(1, 1, 9), timerAt(1, math.MaxInt64, math.MaxInt64))
	for _, x := range []struct {
		run  int
		id   int64
		want bool
	}{
		{1, 1, true}, {1, 2, false}, {1, 0, false}, {1, math.MaxInt64, true}, {1, -1, false},
		{-2, 1, false}, {-2, -1, true}, {0, 1, false}, {2, 1, false},
	} {
		if got := q.Open(x.run, x.id); got != x.want {
			t.Errorf("Open(%d, %d): %v", x.run, x.id, got)
		}
	}
	apply(t, &q, 1, started(2, 1)) // a number may be started anew
	wantList(t, &q, timerAt(-2, -1, -5), timerAt(1, 2, 1), timerAt(1, 1, 9), timerAt(1, math.MaxInt64, math.MaxInt64))
}

// P17.1 and P2: what is refused has changed nothing.
func TestErrors(t *testing.T) {
	var q Queue
	apply(t, &q, 1, begun(2, 10), started(1, 7), started(2, 30), fired(1))
	apply(t, &q, 2, started(3, 8))
	ahead := q.All()
	for _, x := range []struct {
		run  int
		e    api.Event
		want api.Errno
	}{
		{1, begun(2, 10), api.ErrTwice},
		{1, begun(9, 1), api.ErrTwice},
		{1, started(2, 30), api.ErrTwice},
		{1, started(2, 9), api.ErrTwice},
		{1, fired(1), api.ErrMissing},
		{1, canceled(1), api.ErrMissing},
		{1, fired(3), api.ErrMissing},
		{1, canceled(3), api.ErrMissing},
		{1, fired(0), api.ErrMissing}, // the deadline is no timer
		{1, canceled(0), api.ErrMissing},
		{1, fired(-2), api.ErrMissing},
		{2, fired(2), api.ErrMissing},
		{3, canceled(3), api.ErrMissing},
		{0, fired(0), api.ErrMissing},
	} {
		if code := q.Apply(x.run, x.e); code != x.want {
			t.Errorf("Apply(%d, %+v): %v, want %v", x.run, x.e, code, x.want)
		}
		if !slices.Equal(q.All(), ahead) || !q.Right() {
			t.Errorf("Apply(%d, %+v) has changed something", x.run, x.e)
		}
	}
}

// P17.1: ErrFull, of timers and of deadlines, and ErrTwice ahead of it.
func TestFull(t *testing.T) {
	var q Queue
	apply(t, &q, 1, begun(2, 10))
	for i := range int64(heap.MaxItems - 1) {
		apply(t, &q, 2, started(i, 5))
	}
	for _, x := range []struct {
		run  int
		e    api.Event
		want api.Errno
	}{
		{1, started(1, 4), api.ErrFull},
		{2, started(heap.MaxItems, 4), api.ErrFull},
		{2, begun(2, 10), api.ErrFull},
		{2, started(4, 4), api.ErrTwice},
		{1, begun(2, 10), api.ErrTwice},
		{2, begun(2, 0), api.OK},
		{1, fired(1), api.ErrMissing},
	} {
		if code := q.Apply(x.run, x.e); code != x.want || q.Len() != heap.MaxItems {
			t.Errorf("Apply(%d, %+v): %v, want %v; %d wait", x.run, x.e, code, x.want, q.Len())
		}
	}
	apply(t, &q, 2, canceled(8), begun(2, 10))
	apply(t, &q, 2, api.Event{Kind: api.RunFailed})
	wantList(t, &q, deadlineAt(1, 12))
}

// P17.1: of each kind, what happens.
func TestKinds(t *testing.T) {
	all := []heap.Item{deadlineAt(2, 6), timerAt(1, 1, 7), timerAt(2, 1, 7), deadlineAt(1, 12)}
	kinds := []int{math.MinInt, -1, 22, 255, 256 + api.RunFailed, math.MaxInt}
	for kind := range 22 {
		kinds = append(kinds, kind)
	}
	for _, kind := range kinds {
		want, code := all, api.OK
		switch kind {
		case api.RunStarted, api.TimerStarted:
			code = api.ErrTwice
		case api.TimerFired, api.TimerCanceled:
			want = []heap.Item{all[0], all[2], all[3]}
		case api.RunCompleted, api.RunFailed, api.RunCanceled, api.RunTerminated, api.RunTimedOut, api.ContinuedAsNew:
			want = []heap.Item{all[0], all[2]}
		}
		var q Queue
		apply(t, &q, 1, begun(2, 10), started(1, 7))
		apply(t, &q, 2, begun(2, 4), started(1, 7))
		e := api.Event{ID: 9, Time: 5, Kind: kind, A: 1, B: 2, Name: "n", Text: "t", Value: value.Of(1)}
		if got := q.Apply(1, e); got != code {
			t.Errorf("the kind %d: %v, want %v", kind, got, code)
		}
		wantList(t, &q, want...)
		apply(t, &q, 3, api.Event{Kind: api.RunCompleted}) // of a run that has nothing
		wantList(t, &q, want...)
	}
}

// P17.1: behind the run's end it has no deadline, and may begin anew.
func TestAnew(t *testing.T) {
	var q Queue
	apply(t, &q, 1, begun(2, 10), started(1, 7), api.Event{Kind: api.RunTimedOut}, begun(3, 10), started(1, 8))
	wantList(t, &q, timerAt(1, 1, 8), deadlineAt(1, 13))
}

// P17.2: by Due, then by the run, the kind and the number; the order in which it was put doesn't count.
func TestOrder(t *testing.T) {
	want := []heap.Item{
		timerAt(9, 9, 1), deadlineAt(-1, 4), timerAt(2, 1, 4), timerAt(2, 2, 4), timerAt(2, 10, 4), deadlineAt(2, 4),
		timerAt(3, 0, 4), timerAt(10, 3, 4), timerAt(1, 1, 5), deadlineAt(0, 1<<40),
	}
	for shift := range want {
		for _, step := range []int{1, 3, 7, 9} {
			var q Queue
			for i := range want {
				it := want[(shift+i*step)%len(want)]
				e := started(it.ID, it.Due)
				if it.Kind == Deadline {
					e = begun(1, it.Due-1)
				}
				apply(t, &q, it.Run, e)
			}
			wantList(t, &q, want...)
		}
	}
}

// P17.2: Same tells of all but the Seqs.
func TestSame(t *testing.T) {
	of := func(list ...heap.Item) *Queue {
		q := &Queue{}
		for _, it := range list {
			if code := q.Put(it.Key, it.Due); code != api.OK {
				t.Fatal(code)
			}
		}
		return q
	}
	one := []heap.Item{timerAt(1, 1, 7), deadlineAt(1, 12), timerAt(2, 1, 7)}
	q := of(one...)
	turned := slices.Clone(one)
	slices.Reverse(turned)
	if !Same(q, q) || !Same(&Queue{}, of()) || !Same(q, of(turned...)) || !Same(of(turned...), q) {
		t.Error("Same: false")
	}
	gone := of(append(turned, timerAt(5, 5, 5))...)
	if Same(q, gone) || Same(gone, q) {
		t.Error("Same: true, of one more")
	}
	gone.Drop(5)
	if !Same(q, gone) {
		t.Error("Same: false, where one more was there")
	}
	for i := range one {
		for _, other := range []heap.Item{
			timerAt(one[i].Run+5, one[i].ID, one[i].Due),
			timerAt(one[i].Run, one[i].ID+5, one[i].Due),
			timerAt(one[i].Run, one[i].ID, one[i].Due+1),
			{Key: heap.Key{Run: one[i].Run, Kind: 3 - one[i].Kind, ID: 9 - one[i].ID}, Due: one[i].Due},
		} {
			list := slices.Clone(one)
			list[i] = other
			if Same(q, of(list...)) || Same(of(list...), q) {
				t.Errorf("Same: true, with %v in the place of %v", other, one[i])
			}
		}
		if Same(q, of(slices.Delete(slices.Clone(one), i, i+1)...)) {
			t.Errorf("Same: true, without %v", one[i])
		}
	}
	if Same(q, &Queue{}) || Same(&Queue{}, q) {
		t.Error("Same: true, of nothing")
	}
}

// P17.3: what is due, at each tick, and nothing of a run behind its deadline.
func TestFires(t *testing.T) {
	var q Queue
	apply(t, &q, 2, started(4, 6), started(3, 6), begun(1, 5), started(9, 7), started(1, 3))
	apply(t, &q, 1, started(8, 6), started(2, 9), begun(1, 7), started(5, 8), started(7, 2))
	apply(t, &q, 3, started(1, 7), started(2, 11))
	for now, want := range map[int64][]Fire{
		math.MinInt64: {},
		0:             {},
		1:             {},
		2:             {firing(1, 7, 2)},
		3:             {firing(1, 7, 3), firing(2, 1, 3)},
		5:             {firing(1, 7, 5), firing(2, 1, 5)},
		6:             {firing(1, 7, 6), firing(2, 1, 6), firing(1, 8, 6), firing(2, 3, 6), firing(2, 4, 6), timedOut(2, 6)},
		7:             {firing(1, 7, 7), firing(2, 1, 7), firing(1, 8, 7), firing(2, 3, 7), firing(2, 4, 7), timedOut(2, 7), firing(3, 1, 7)},
		// a timer that is due at the tick of the deadline fires, one that is due later doesn't
		10: {firing(1, 7, 10), firing(2, 1, 10), firing(1, 8, 10), firing(2, 3, 10), firing(2, 4, 10), timedOut(2, 10), firing(3, 1, 10), firing(1, 5, 10), timedOut(1, 10)},
		math.MaxInt64: {
			firing(1, 7, math.MaxInt64), firing(2, 1, math.MaxInt64), firing(1, 8, math.MaxInt64), firing(2, 3, math.MaxInt64), firing(2, 4, math.MaxInt64),
			timedOut(2, math.MaxInt64), firing(3, 1, math.MaxInt64), firing(1, 5, math.MaxInt64), timedOut(1, math.MaxInt64), firing(3, 2, math.MaxInt64),
		},
	} {
		wantFires(t, &q, now, want...)
	}
}

// P17.3: ticks below 0, and what is due ahead of them.
func TestFiresOfAnyTick(t *testing.T) {
	var q Queue
	apply(t, &q, 1, started(1, -3), started(-2, math.MinInt64))
	wantFires(t, &q, -4, firing(1, -2, -4))
	wantFires(t, &q, -3, firing(1, -2, -3), firing(1, 1, -3))
	wantFires(t, &q, math.MinInt64, firing(1, -2, math.MinInt64))
}

// P17.3: what Fires told may be written: then nothing is due, and the runs that timed out have nothing.
func TestFiresApplied(t *testing.T) {
	var q Queue
	apply(t, &q, 1, begun(0, 9), started(1, 4), started(2, 20))
	apply(t, &q, 2, started(1, 9), started(2, 10))
	for _, f := range q.Fires(9) {
		apply(t, &q, f.Run, f.Event)
	}
	wantFires(t, &q, 9)
	wantList(t, &q, timerAt(2, 2, 10))
}

// P17.4: runs one behind the other, by their numbers.
func TestOf(t *testing.T) {
	runs := map[int][]api.Event{
		3:  {begun(1, 5), started(1, 4)},
		-1: {started(7, 8)},
		2:  {begun(1, 5), started(1, 4), {Kind: api.RunCanceled}},
		10: {begun(2, 0), {Kind: api.SignalReceived, Name: "s"}, started(1, 4), started(2, 3), canceled(1)},
		1:  {begun(1, 3), started(1, 6), fired(1), started(2, 6)},
		4:  {},
		5:  nil,
	}
	ahead := map[int][]api.Event{}
	for run, list := range runs {
		ahead[run] = slices.Clone(list)
	}
	for range 20 {
		q, code := Of(runs)
		if code != api.OK || q == nil {
			t.Fatalf("Of: %v", code)
		}
		wantList(t, q, timerAt(10, 2, 3), deadlineAt(1, 4), timerAt(3, 1, 4), timerAt(1, 2, 6), deadlineAt(3, 6), timerAt(-1, 7, 8))
		var seqs []uint64 // of those in the order of their ticks
		for _, it := range q.All() {
			seqs = append(seqs, it.Seq)
		}
		if want := []uint64{10, 2, 8, 4, 7, 1}; !slices.Equal(seqs, want) {
			t.Fatalf("Of: the Seqs %v, want %v", seqs, want)
		}
	}
	if !reflect.DeepEqual(runs, ahead) {
		t.Error("Of has changed what was handed in")
	}
	for _, runs := range []map[int][]api.Event{nil, {}, {1: nil, 2: {}}} {
		q, code := Of(runs)
		if code != api.OK || q == nil {
			t.Fatalf("Of(%v): %v, %v", runs, q, code)
		}
		wantList(t, q)
	}
}

// P17.4: the first error, by the runs' numbers, and none.
func TestOfErrors(t *testing.T) {
	twice, missing := []api.Event{started(1, 2), started(1, 3), fired(7)}, []api.Event{fired(7), started(1, 2), started(1, 3)}
	var full []api.Event
	for i := range int64(heap.MaxItems) {
		full = append(full, started(i, 5))
	}
	one := []api.Event{started(1, 5)}
	for name, x := range map[string]struct {
		runs map[int][]api.Event
		want api.Errno
	}{
		"twice":                        {map[int][]api.Event{1: twice}, api.ErrTwice},
		"missing":                      {map[int][]api.Event{1: missing}, api.ErrMissing},
		"of the first run":             {map[int][]api.Event{1: missing, 2: twice, 3: missing}, api.ErrMissing},
		"of the first run, below 0":    {map[int][]api.Event{-5: twice, -2: missing, 0: missing}, api.ErrTwice},
		"of the first run that is so":  {map[int][]api.Event{2: one, 10: twice, 100: missing}, api.ErrTwice},
		"another run's timer":          {map[int][]api.Event{1: {started(1, 5)}, 2: {fired(1)}}, api.ErrMissing},
		"full":                         {map[int][]api.Event{1: full}, api.OK},
		"one too many":                 {map[int][]api.Event{1: full, 2: one}, api.ErrFull},
		"one too many ahead of others": {map[int][]api.Event{1: full, 2: one, 3: twice, 4: missing}, api.ErrFull},
		"twice ahead of one too many":  {map[int][]api.Event{1: full, 0: twice, 2: one}, api.ErrTwice},
	} {
		for range 5 {
			q, code := Of(x.runs)
			if code != x.want || (q == nil) != (code != api.OK) {
				t.Errorf("Of, %s: %v, %v, want %v", name, q != nil, code, x.want)
			}
		}
	}
}

// The heap's calls are the queue's, too.
func TestPromoted(t *testing.T) {
	var q Queue
	apply(t, &q, 1, begun(1, 5), started(1, 4))
	if it, ok := q.Pop(); !ok || it.ID != 1 || it.Seq != 2 {
		t.Errorf("Pop: %v, %v", it, ok)
	}
	wantList(t, &q, deadlineAt(1, 6))
	if code := q.Put(heap.Key{Run: 1, Kind: Timer, ID: 3}, 2); code != api.OK || !q.Open(1, 3) {
		t.Errorf("Put: %v", code)
	}
	if code := q.Apply(1, fired(3)); code != api.OK {
		t.Errorf("Apply of what was put: %v", code)
	}
	if n := q.Drop(1); n != 1 {
		t.Errorf("Drop: %d", n)
	}
	wantList(t, &q)
}

// P2: what is answered is nobody else's.
func TestAnswersAreNew(t *testing.T) {
	var q Queue
	apply(t, &q, 1, begun(1, 5), started(1, 4))
	apply(t, &q, 2, started(1, 4))
	all := q.All()
	for range 2 {
		items := q.List()
		items = items[:cap(items)]
		clear(items)
		fires := q.Fires(9)
		fires = fires[:cap(fires)]
		clear(fires)
	}
	if !slices.Equal(q.All(), all) {
		t.Error("what was answered is what is kept")
	}
	wantList(t, &q, timerAt(1, 1, 4), timerAt(2, 1, 4), deadlineAt(1, 6))
	list, fires := q.List(), q.Fires(9)
	apply(t, &q, 1, api.Event{Kind: api.RunFailed}, started(5, 1))
	if !slices.Equal(list, []heap.Item{timerAt(1, 1, 4), timerAt(2, 1, 4), deadlineAt(1, 6)}) || len(fires) != 3 || !reflect.DeepEqual(fires[0], firing(1, 1, 9)) {
		t.Errorf("what was answered has changed: %v, %v", list, fires)
	}
}
