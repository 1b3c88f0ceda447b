package run

import (
	"math"
	"reflect"
	"slices"
	"strings"
	"testing"

	"foliot/api"
	"foliot/event"
	"foliot/value"
)

// lastTick is the last one that may be.
const lastTick = 1<<62 - 1

func started(time int64) api.Event { return api.Event{Time: time, Kind: api.RunStarted, Name: "p"} }

func signal(time int64) api.Event {
	return api.Event{Time: time, Kind: api.SignalReceived, Name: "go"}
}

func asks(time int64) api.Event { return api.Event{Time: time, Kind: api.CancelRequested} }

func scheduled(b int64) api.Event { return api.Event{Kind: api.TaskScheduled, B: b} }

func taken(worker int64) api.Event { return api.Event{Kind: api.TaskStarted, A: worker, B: 1} }

func completed(more int64) api.Event { return api.Event{Kind: api.TaskCompleted, B: more} }

func lost() api.Event { return api.Event{Kind: api.TaskTimedOut, B: 1} }

func failed() api.Event { return api.Event{Kind: api.TaskFailed, B: 1, Name: "bad"} }

func timer(id, due int64) api.Event { return api.Event{Kind: api.TimerStarted, A: id, B: due} }

func fires(id, time int64) api.Event { return api.Event{Time: time, Kind: api.TimerFired, A: id} }

func canceled(id int64) api.Event { return api.Event{Kind: api.TimerCanceled, A: id} }

func call(id int64) api.Event {
	return api.Event{Time: 2, Kind: api.ActivityScheduled, A: id, B: 6, Name: "pay", Value: value.Of(id)}
}

// end: an activity's, of one of the three kinds.
func end(kind int, id, time int64) api.Event { return api.Event{Time: time, Kind: kind, A: id} }

func of(kind int) api.Event { return api.Event{Kind: kind, Time: 9} }

// closing are the kinds that close a run.
func closing() []int {
	return []int{api.RunCompleted, api.RunFailed, api.RunCanceled, api.RunTerminated, api.RunTimedOut, api.ContinuedAsNew}
}

// numbered: events with the numbers from first on.
func numbered(first int, list ...api.Event) []api.Event {
	list = slices.Clone(list)
	for i := range list {
		list[i].ID = first + i
	}
	return list
}

// printed: events as a text; of many the last ones.
func printed(list []api.Event) string {
	var text []string
	if n := len(list) - 20; n > 0 {
		list, text = list[n:], []string{".."}
	}
	for _, e := range list {
		text = append(text, event.Print(e))
	}
	return strings.Join(text, ", ")
}

// mustOf: the state behind events, which is as the words have it.
func mustOf(t testing.TB, list ...api.Event) *State {
	t.Helper()
	s, code := Of(list...)
	if code != api.OK {
		t.Fatalf("Of(%s): %v", printed(list), code)
	}
	wantState(t, s, numbered(1, list...))
	return s
}

// wantCheck: an event behind a history that ahead is: Check's and Apply's answer; of a refused one nothing has changed.
func wantCheck(t testing.TB, want api.Errno, e api.Event, ahead ...api.Event) {
	t.Helper()
	s := mustOf(t, ahead...)
	for range 2 {
		if got := s.Check(e); got != want {
			t.Errorf("Check(%+v): %v, want %v, behind %s", e, got, want, printed(ahead))
		}
	}
	all := numbered(1, ahead...)
	wantState(t, s, all)
	if got := s.Apply(e); got != want {
		t.Errorf("Apply(%+v): %v, want %v, behind %s", e, got, want, printed(ahead))
	}
	if want == api.OK {
		all = append(all, numbered(len(all)+1, e)...)
	}
	wantState(t, s, all)
	behind, code := Of(append(slices.Clone(ahead), e)...)
	if code != want || (behind == nil) != (want != api.OK) {
		t.Errorf("Of(%s, %+v): %v, %v, want %v", printed(ahead), e, behind != nil, code, want)
	}
}

// The chapter's example.
func TestExample(t *testing.T) {
	s := &State{}
	apply := func(list []api.Event, code api.Errno) {
		t.Helper()
		if code != api.OK {
			t.Fatal(code)
		}
		for _, e := range list {
			if code := s.Apply(e); code != api.OK {
				t.Fatal(code)
			}
		}
	}
	apply(s.Outside(started(3)))
	if state, _, _ := s.Task(); state != Scheduled || s.Len() != 2 {
		t.Errorf("a task-scheduled isn't behind it: %d, %d", state, s.Len())
	}
	apply(s.Start(7))
	if state, attempt, worker := s.Task(); state != Started || attempt != 1 || worker != 7 {
		t.Errorf("Task: %d, %d, %d", state, attempt, worker)
	}
	apply(s.Complete(0, false, api.Command{Kind: api.StartTimer, Time: 3, A: 1, B: 5}))
	if due, ok := s.Due(1); due != 8 || !ok || !slices.Equal(s.Timers(), []int64{1}) || !s.Settled() {
		t.Errorf("Due, Timers, Settled: %d, %v, %v, %v", due, ok, s.Timers(), s.Settled())
	}
}

func TestNumbers(t *testing.T) {
	if MaxSignals != 256 || MaxOpen != 256 || None != 0 || Scheduled != 1 || Started != 2 {
		t.Errorf("%d, %d, %d, %d, %d", MaxSignals, MaxOpen, None, Scheduled, Started)
	}
}

// P23.1 to P23.4: the zero state has no history, and so has Of of nothing.
func TestNone(t *testing.T) {
	empty, code := Of()
	if code != api.OK {
		t.Fatalf("Of(): %v", code)
	}
	for _, s := range []*State{{}, empty} {
		wantState(t, s, nil)
		if s.Unseen() || !s.Settled() || s.Len() != 0 {
			t.Errorf("Unseen, Settled, Len: %v, %v, %d", s.Unseen(), s.Settled(), s.Len())
		}
		if code := s.Apply(started(3)); code != api.OK {
			t.Errorf("Apply: %v", code)
		}
		wantState(t, s, numbered(1, started(3)))
	}
}

// P23.1: what the first event says, and how many there are of some.
func TestFacts(t *testing.T) {
	first := api.Event{ID: 1, Time: 3, Kind: api.RunStarted, A: 9, B: 4, Name: "bill", Text: "0 1 * * *", Value: value.Of(5)}
	s := mustOf(t, first)
	if s.Program() != "bill" || s.Cron() != "0 1 * * *" || s.Asked() || s.Closed() || s.Signals() != 0 || s.Len() != 1 {
		t.Errorf("%+v", s)
	}
	s = mustOf(t, first, signal(3), asks(4), signal(4), asks(4))
	if s.Program() != "bill" || s.Cron() != "0 1 * * *" || !s.Asked() || s.Closed() || s.Signals() != 2 || s.Len() != 5 {
		t.Errorf("%+v", s)
	}
	for _, kind := range closing() {
		s := mustOf(t, first, signal(4), of(kind))
		if !s.Closed() || s.Len() != 3 || s.Signals() != 1 || s.Program() != "bill" {
			t.Errorf("%d: %+v", kind, s)
		}
	}
}

// P23.1: Of tells the first error of the events, and then no state.
func TestOf(t *testing.T) {
	list := []api.Event{started(3), scheduled(1), taken(4), completed(0), timer(1, 8), fires(1, 8), of(api.RunCompleted)}
	for n := range list {
		mustOf(t, list[:n]...)
		wrong := append(slices.Clone(list[:n]), taken(4))
		wrong = append(wrong, list[n:]...)
		if n == 2 {
			continue
		}
		if s, code := Of(wrong...); s != nil || code != api.ErrState {
			t.Errorf("Of(%s): %v, %v", printed(wrong), s != nil, code)
		}
	}
	if s, code := Of(append(list, signal(9), fires(9, 9))...); s != nil || code != api.ErrClosed {
		t.Errorf("Of of events behind its end: %v, %v", s != nil, code)
	}
}

// P23.2: the number.
func TestCheckID(t *testing.T) {
	for _, id := range []int{math.MinInt, -1, 0, 1, 2, 3, 4, 5, 1 << 20, 1<<20 + 1, math.MaxInt} {
		want := api.ErrChain
		if id == 0 || id == 3 {
			want = api.OK
		}
		e := signal(4)
		e.ID = id
		wantCheck(t, want, e, started(3), scheduled(1))
		if want = api.ErrChain; id == 0 || id == 1 {
			want = api.OK
		}
		e = started(4)
		e.ID = id
		wantCheck(t, want, e)
	}
}

// with: an event that is otherwise.
func with(e api.Event, change func(e *api.Event)) api.Event {
	change(&e)
	return e
}

// P23.2: what layer 9 refuses, with its errors.
func TestCheckEvent(t *testing.T) {
	knot := api.Value{Kind: api.List, List: make([]api.Value, 1)}
	knot.List[0] = knot
	for _, x := range []struct {
		e    api.Event
		want api.Errno
	}{
		{of(0), api.ErrKind},
		{of(22), api.ErrKind},
		{of(-1), api.ErrKind},
		{signal(-1), api.ErrRange},
		{signal(lastTick + 1), api.ErrRange},
		{with(signal(4), func(e *api.Event) { e.A = 1 }), api.ErrRange},
		{with(signal(4), func(e *api.Event) { e.Name = strings.Repeat("n", 65) }), api.ErrLong},
		{with(signal(4), func(e *api.Event) { e.Text = "t" }), api.ErrForm},
		{with(signal(4), func(e *api.Event) { e.Value = api.Value{Kind: 9} }), api.ErrKind},
		{with(signal(4), func(e *api.Event) { e.Value = knot }), api.ErrDeep},
		{with(asks(4), func(e *api.Event) { e.Value = value.Of(0) }), api.ErrForm},
	} {
		wantCheck(t, x.want, x.e, started(3))
		if got, code := mustOf(t, started(3)).Outside(x.e); got != nil || code != x.want {
			t.Errorf("Outside(%+v): %+v, %v, want %v", x.e, got, code, x.want)
		}
	}
	wantCheck(t, api.OK, signal(lastTick), started(3))
	wantCheck(t, api.OK, with(signal(4), func(e *api.Event) { e.Name = strings.Repeat("n", 64) }), started(3))
}

// P23.2: of several errors the one that is named first.
func TestCheckOrder(t *testing.T) {
	over := []api.Event{started(3), of(api.RunCompleted)}
	full := []api.Event{started(3)}
	for i := range int64(256) {
		full = append(full, timer(i+1, 5))
	}
	heard := []api.Event{started(3)}
	for range 256 {
		heard = append(heard, signal(3))
	}
	id := func(n int) func(e *api.Event) { return func(e *api.Event) { e.ID = n } }
	for i, x := range []struct {
		e     api.Event
		ahead []api.Event
		want  api.Errno
	}{
		{with(of(0), id(9)), over, api.ErrChain},
		{with(signal(-1), id(9)), over, api.ErrChain},
		{with(signal(4), id(2)), over, api.ErrChain},
		{of(0), over, api.ErrKind},
		{of(0), nil, api.ErrKind},
		{signal(-1), over, api.ErrRange},
		{signal(-1), nil, api.ErrRange},
		{with(taken(1), func(e *api.Event) { e.Name = "n" }), over, api.ErrForm},
		{with(taken(1), func(e *api.Event) { e.Name = "n" }), []api.Event{started(3)}, api.ErrForm},
		{started(2), over, api.ErrClosed},
		{signal(2), over, api.ErrClosed},
		{taken(1), over, api.ErrClosed},
		{fires(1, 2), over, api.ErrClosed},
		{started(2), []api.Event{started(3)}, api.ErrState},
		{started(4), []api.Event{started(3)}, api.ErrState},
		{taken(1), nil, api.ErrState},
		{fires(1, 2), nil, api.ErrState},
		{timer(5, 2), nil, api.ErrState},
		{fires(1, 2), []api.Event{started(3)}, api.ErrRange},
		{fires(1, 3), []api.Event{started(3)}, api.ErrMissing},
		{end(api.ActivityFailed, 1, 2), []api.Event{started(3)}, api.ErrRange},
		{end(api.ActivityFailed, 1, 3), []api.Event{started(3)}, api.ErrMissing},
		{signal(2), heard, api.ErrRange},
		{signal(3), heard, api.ErrFull},
		{timer(256, 9), full, api.ErrTwice},
		{timer(258, 9), full, api.ErrRange},
		{timer(257, 9), full, api.ErrFull},
		{call(0), full, api.ErrTwice},
		{call(2), full, api.ErrRange},
		{call(1), full, api.ErrFull},
	} {
		if got := mustOf(t, x.ahead...).Check(x.e); got != x.want {
			t.Errorf("%d: Check(%+v): %v, want %v", i, x.e, got, x.want)
		}
	}
}

// P23.2: a run begins once, and first.
func TestCheckFirst(t *testing.T) {
	for kind := 1; kind <= 21; kind++ {
		first, second := api.ErrState, api.OK
		if kind == api.RunStarted {
			first, second = api.OK, api.ErrState
		}
		wantCheck(t, first, of(kind))
		if slices.Contains([]int{1, 2, 14, 15, 16, 17, 18, 19, 20, 21}, kind) {
			wantCheck(t, second, of(kind), started(3))
		}
	}
}

// P23.2: behind each kind that closes, nothing follows.
func TestCheckClosed(t *testing.T) {
	for _, last := range closing() {
		for kind := 1; kind <= 21; kind++ {
			wantCheck(t, api.ErrClosed, of(kind), started(3), scheduled(1), of(last))
		}
	}
}

// P23.2: the ticks of events from outside don't fall; others' ticks don't count.
func TestCheckTime(t *testing.T) {
	late := timer(1, 3)
	late.Time = 90
	ahead := []api.Event{started(3), signal(6), late, call(1), timer(2, 3)}
	for _, e := range []api.Event{
		signal(0), asks(0), fires(1, 0), fires(2, 0), end(api.ActivityCompleted, 1, 0), end(api.ActivityFailed, 1, 0),
		end(api.ActivityTimedOut, 1, 0), of(api.RunTerminated), of(api.RunTimedOut),
	} {
		for _, time := range []int64{0, 3, 5, 6, 7, 80, lastTick} {
			want := api.OK
			if time < 6 {
				want = api.ErrRange
			}
			e.Time = time
			wantCheck(t, want, e, ahead...)
		}
	}
	for _, e := range []api.Event{scheduled(1), canceled(1), timer(3, 0), call(2), of(api.RunCompleted), of(api.RunFailed), of(api.RunCanceled), of(api.ContinuedAsNew)} {
		for _, time := range []int64{0, 5, 6, 7} {
			e.Time = time
			wantCheck(t, api.OK, e, ahead...)
		}
	}
	for _, first := range []int64{0, 1, lastTick} {
		wantCheck(t, api.OK, started(first))
	}
}

// P23.2 and P23.3: each kind of a task's events, in each of its states.
func TestTask(t *testing.T) {
	begun := []api.Event{started(3)}
	waits := append(slices.Clone(begun), scheduled(5))
	had := append(slices.Clone(waits), taken(7))
	states := [][]api.Event{begun, waits, had}
	for _, last := range []api.Event{completed(0), lost(), failed()} {
		states = append(states, append(slices.Clone(had), last))
	}
	for i, ahead := range states {
		state := i
		if i > Started {
			state = None
		}
		for kind, needs := range [5]int{None, Scheduled, Started, Started, Started} {
			want := api.OK
			if needs != state {
				want = api.ErrState
			}
			wantCheck(t, want, of(api.TaskScheduled+kind), ahead...)
		}
		got, attempt, worker := mustOf(t, ahead...).Task()
		if got != state || (attempt != 0) != (state != None) || (worker != 0) != (state == Started) {
			t.Errorf("Task: %d, %d, %d, behind %s", got, attempt, worker, printed(ahead))
		}
	}
	for i, x := range []struct {
		ahead             []api.Event
		attempt, worker   int64
		seen, seenWaiting int
	}{
		{had, 5, 7, 3, 0},
		{append(slices.Clone(had), lost(), scheduled(9), taken(0)), 9, 0, 6, 0},
		{append(slices.Clone(had), completed(0), scheduled(2), taken(math.MaxInt64)), 2, math.MaxInt64, 6, 3},
		{append(slices.Clone(had), completed(0), signal(3), scheduled(2), taken(3), failed(), signal(4), scheduled(math.MaxInt64), taken(8)), math.MaxInt64, 8, 11, 3},
	} {
		s := mustOf(t, x.ahead...)
		if _, attempt, worker := s.Task(); attempt != x.attempt || worker != x.worker || s.Seen() != x.seen {
			t.Errorf("%d: Task, Seen: %d, %d, %d", i, attempt, worker, s.Seen())
		}
		for _, last := range []api.Event{lost(), failed()} {
			s := mustOf(t, append(slices.Clone(x.ahead), last)...)
			if state, attempt, worker := s.Task(); state != None || attempt != 0 || worker != 0 || s.Seen() != x.seenWaiting {
				t.Errorf("%d: Task, Seen: %d, %d, %d, %d", i, state, attempt, worker, s.Seen())
			}
			wantCheck(t, api.OK, scheduled(2), append(slices.Clone(x.ahead), last)...)
		}
		if s := mustOf(t, append(slices.Clone(x.ahead), completed(0))...); s.Seen() != x.seen {
			t.Errorf("%d: Seen: %d", i, s.Seen())
		}
	}
}

// P23.3: a run that is over keeps its task, and what is open.
func TestClosedKeeps(t *testing.T) {
	s := mustOf(t, started(3), scheduled(4), taken(7), timer(1, 8), call(1), with(of(api.RunTerminated), func(e *api.Event) { e.Time = 5 }))
	if state, attempt, worker := s.Task(); state != Started || attempt != 4 || worker != 7 || s.Seen() != 3 {
		t.Errorf("Task, Seen: %d, %d, %d, %d", state, attempt, worker, s.Seen())
	}
	if !s.Settled() || s.Unseen() || len(s.Timers()) != 1 || len(s.Activities()) != 1 {
		t.Errorf("Settled, Unseen, Timers, Activities: %v, %v, %v, %v", s.Settled(), s.Unseen(), s.Timers(), s.Activities())
	}
}

// P23.2 and P23.3: a timer's and an activity's numbers go one by one, each of its own, whatever has ended.
func TestNumbersOfOpen(t *testing.T) {
	for _, x := range []struct {
		ahead []api.Event
		last  [2]int64 // the last timer's and the last activity's
	}{
		{[]api.Event{started(3)}, [2]int64{0, 0}},
		{[]api.Event{started(3), timer(1, 4), timer(2, 4)}, [2]int64{2, 0}},
		{[]api.Event{started(3), call(1), call(2), call(3)}, [2]int64{0, 3}},
		{[]api.Event{started(3), call(1), timer(1, 4), timer(2, 3), fires(2, 4), canceled(1), end(api.ActivityTimedOut, 1, 5)}, [2]int64{2, 1}},
	} {
		for _, id := range []int64{-1, 0, 1, 2, 3, 4, 5, 9, math.MaxInt64} {
			for i, e := range []api.Event{timer(id, 4), call(id)} {
				want := api.OK
				switch {
				case id < 0 || id > x.last[i]+1:
					want = api.ErrRange
				case id <= x.last[i]:
					want = api.ErrTwice
				}
				wantCheck(t, want, e, x.ahead...)
			}
		}
	}
}

// P23.2 and P23.3: timers fire when they are due, or are canceled at any tick, and only while they are open.
func TestTimers(t *testing.T) {
	ahead := []api.Event{started(3), timer(1, 9), timer(2, 0), timer(3, math.MaxInt64), timer(4, 7), timer(5, 7)}
	s := mustOf(t, ahead...)
	if !slices.Equal(s.Timers(), []int64{1, 2, 3, 4, 5}) {
		t.Errorf("Timers: %v", s.Timers())
	}
	for _, time := range []int64{3, 8, 9, 10, lastTick} {
		want := api.OK
		if time < 9 {
			want = api.ErrRange
		}
		wantCheck(t, want, fires(1, time), ahead...)
		wantCheck(t, api.OK, fires(2, time), ahead...)
		wantCheck(t, api.ErrRange, fires(3, time), ahead...)
		wantCheck(t, api.ErrMissing, fires(6, time), ahead...)
	}
	for id := int64(-1); id < 8; id++ {
		want := api.ErrMissing
		if id < 0 {
			want = api.ErrRange
		} else if 1 <= id && id <= 5 {
			want = api.OK
		}
		wantCheck(t, want, canceled(id), ahead...)
		wantCheck(t, want, with(fires(id, lastTick), func(e *api.Event) {
			if id == 3 {
				e.A = 1 // it isn't due in any tick
			}
		}), ahead...)
	}
	ahead = append(ahead, fires(4, 7), canceled(2), fires(1, 9))
	for id := int64(1); id <= 5; id++ {
		want := api.OK
		if id != 3 && id != 5 {
			want = api.ErrMissing
		}
		wantCheck(t, want, canceled(id), ahead...)
		if id != 3 {
			wantCheck(t, want, fires(id, 10), ahead...)
		}
	}
	if s := mustOf(t, ahead...); !slices.Equal(s.Timers(), []int64{3, 5}) {
		t.Errorf("Timers: %v", s.Timers())
	}
}

// P23.2 and P23.3: activities, and their three ends.
func TestActivities(t *testing.T) {
	pay := api.Event{Time: 2, Kind: api.ActivityScheduled, A: 2, B: math.MaxInt64, Name: "pay", Value: value.List(value.Of(1), value.Text("a"))}
	ahead := []api.Event{started(3), call(1), pay, timer(1, 4), timer(2, 4), timer(3, 4), call(3)}
	s := mustOf(t, ahead...)
	want := []Activity{
		{ID: 1, Name: "pay", Policy: 6, Input: value.Of(1), Since: 2},
		{ID: 2, Name: "pay", Policy: math.MaxInt64, Input: value.List(value.Of(1), value.Text("a")), Since: 2},
		{ID: 3, Name: "pay", Policy: 6, Input: value.Of(3), Since: 2},
	}
	if got := s.Activities(); !reflect.DeepEqual(got, want) {
		t.Errorf("Activities: %+v", got)
	}
	if got, ok := s.Activity(2); !reflect.DeepEqual(got, want[1]) || !ok {
		t.Errorf("Activity: %+v, %v", got, ok)
	}
	for _, kind := range []int{api.ActivityCompleted, api.ActivityFailed, api.ActivityTimedOut} {
		for id := range int64(6) {
			want := api.OK
			if id < 1 || id > 3 {
				want = api.ErrMissing
			}
			wantCheck(t, want, end(kind, id, 3), ahead...)
			for _, again := range []int{api.ActivityCompleted, api.ActivityFailed, api.ActivityTimedOut} {
				if id == 2 {
					want = api.ErrMissing
				}
				wantCheck(t, want, end(again, id, 5), append(slices.Clone(ahead), end(kind, 2, 4))...)
			}
		}
		if s := mustOf(t, append(ahead, end(kind, 2, 4))...); len(s.Activities()) != 2 || len(s.Timers()) != 3 {
			t.Errorf("behind the kind %d: %+v, %v", kind, s.Activities(), s.Timers())
		}
	}
}

// P23.2: MaxOpen timers and activities are open, whichever they are; there is room for as many as have ended.
func TestMaxOpen(t *testing.T) {
	for _, timers := range []int64{0, 1, 100, 254, 255} {
		open := []api.Event{started(3)}
		for i := range timers {
			open = append(open, timer(i+1, 4))
		}
		for i := range 255 - timers {
			open = append(open, call(i+1))
		}
		next := [2]api.Event{timer(timers+1, 4), call(256 - timers)}
		for i, e := range next {
			wantCheck(t, api.OK, e, open...)
			full := append(slices.Clone(open), e)
			after := next
			after[i].A++
			for _, e := range after {
				wantCheck(t, api.ErrFull, e, full...)
			}
			for _, last := range []api.Event{fires(1, 4), canceled(1), end(api.ActivityCompleted, 1, 5), end(api.ActivityFailed, 1, 5), end(api.ActivityTimedOut, 1, 5)} {
				if mustOf(t, full...).Check(last) == api.ErrMissing {
					continue // no timer, or no activity, is open
				}
				for _, e := range after {
					wantCheck(t, api.OK, e, append(slices.Clone(full), last)...)
				}
			}
		}
	}
}

// P23.2: a run has MaxSignals signals at most.
func TestMaxSignals(t *testing.T) {
	ahead := []api.Event{started(3)}
	for range 255 {
		ahead = append(ahead, signal(3))
	}
	wantCheck(t, api.OK, signal(4), ahead...)
	ahead = append(ahead, signal(4))
	wantCheck(t, api.ErrFull, signal(4), ahead...)
	wantCheck(t, api.OK, asks(4), ahead...)
	if s := mustOf(t, ahead...); s.Signals() != 256 {
		t.Errorf("Signals: %d", s.Signals())
	}
}

// P23.2 and P23.5: layer 9's MaxID is the last number; where no event may follow, or one of them, none is written.
func TestMaxID(t *testing.T) {
	s := mustOf(t, started(3), scheduled(1))
	for s.Len() < 1<<20-1 {
		if code := s.Apply(asks(3)); code != api.OK {
			t.Fatalf("behind %d: %v", s.Len(), code)
		}
	}
	if got, code := s.Start(4); code != api.OK || len(got) != 1 || got[0].ID != 1<<20 {
		t.Errorf("Start: %+v, %v", got, code)
	}
	if got, code := s.Retry(""); code != api.ErrState || got != nil {
		t.Errorf("Retry: %+v, %v", got, code)
	}
	if code := s.Apply(taken(4)); code != api.OK {
		t.Fatal(code)
	}
	for _, id := range []int{0, 1<<20 + 1} {
		if code := s.Check(with(asks(3), func(e *api.Event) { e.ID = id })); code != api.ErrRange {
			t.Errorf("one more, %d: %v", id, code)
		}
	}
	for _, e := range []api.Event{asks(3), signal(2)} {
		if got, code := s.Outside(e); code != api.ErrRange || got != nil {
			t.Errorf("Outside: %+v, %v", got, code)
		}
	}
	if got, code := s.Complete(1, false); code != api.ErrRange || got != nil {
		t.Errorf("Complete: %+v, %v", got, code)
	}
	if s.Len() != 1<<20 {
		t.Errorf("Len: %d", s.Len())
	}
}

// P23.5: a task for which there is no number is one that may not follow.
func TestMaxIDOfTask(t *testing.T) {
	s := mustOf(t, started(3))
	for s.Len() < 1<<20-2 {
		if code := s.Apply(asks(3)); code != api.OK {
			t.Fatalf("behind %d: %v", s.Len(), code)
		}
	}
	got, code := s.Outside(signal(3))
	if want := numbered(1<<20-1, signal(3), with(scheduled(1), func(e *api.Event) { e.Time = 3 })); code != api.OK || !reflect.DeepEqual(got, want) {
		t.Errorf("Outside: %+v, %v", got, code)
	}
	if code := s.Apply(asks(3)); code != api.OK {
		t.Fatal(code)
	}
	if got, code := s.Outside(signal(3)); code != api.ErrRange || got != nil {
		t.Errorf("Outside: %+v, %v", got, code)
	}
	if got, code := s.Outside(of(api.RunTerminated)); code != api.OK || len(got) != 1 {
		t.Errorf("Outside of a run's end: %+v, %v", got, code)
	}
}

// P23.4: Unseen and Settled.
func TestUnseen(t *testing.T) {
	for i, x := range []struct {
		unseen, settled bool
		list            []api.Event
	}{
		{true, false, []api.Event{started(3)}},
		{true, false, []api.Event{started(3), scheduled(1)}},
		{true, false, []api.Event{started(3), scheduled(1), taken(1)}},
		{true, false, []api.Event{started(3), scheduled(1), taken(1), lost()}},
		{true, false, []api.Event{started(3), scheduled(1), taken(1), failed(), scheduled(2)}},
		{false, true, []api.Event{started(3), scheduled(1), taken(1), completed(0)}},
		{true, false, []api.Event{started(3), scheduled(1), taken(1), completed(1)}},
		{true, false, []api.Event{started(3), scheduled(1), taken(1), completed(math.MaxInt64)}},
		{true, false, []api.Event{started(3), scheduled(1), taken(1), signal(3), completed(0)}},
		{true, false, []api.Event{started(3), scheduled(1), signal(3), taken(1), asks(3), completed(0)}},
		{false, true, []api.Event{started(3), scheduled(1), signal(3), taken(1), completed(0)}},
		{false, true, []api.Event{started(3), scheduled(1), taken(1), completed(0), timer(1, 4), call(1)}},
		{true, false, []api.Event{started(3), scheduled(1), taken(1), completed(0), timer(1, 4), fires(1, 4)}},
		{false, true, []api.Event{started(3), scheduled(1), taken(1), completed(0), timer(1, 4), canceled(1)}},
		{true, false, []api.Event{started(3), scheduled(1), taken(1), completed(0), call(1), end(api.ActivityTimedOut, 1, 4)}},
		{false, false, []api.Event{started(3), scheduled(1), taken(1), completed(0), scheduled(1)}},
		{false, false, []api.Event{started(3), scheduled(1), taken(1), completed(0), scheduled(1), taken(2)}},
		{true, false, []api.Event{started(3), scheduled(1), taken(1), completed(0), signal(3), scheduled(1), taken(2)}},
		{true, false, []api.Event{started(3), scheduled(1), taken(1), completed(0), signal(3), scheduled(1), taken(2), lost()}},
		{false, true, []api.Event{started(3), scheduled(1), taken(1), completed(0), signal(3), scheduled(1), taken(2), completed(0)}},
		{true, false, []api.Event{started(3), scheduled(1), taken(1), completed(1), scheduled(1), taken(2)}},
		{true, false, []api.Event{started(3), scheduled(1), taken(1), completed(1), scheduled(1), taken(2), failed()}},
		{false, true, []api.Event{started(3), scheduled(1), taken(1), completed(1), scheduled(1), taken(2), completed(0)}},
		{false, true, []api.Event{started(3), scheduled(1), taken(1), completed(1), of(api.RunCompleted)}},
		{false, true, []api.Event{started(3), of(api.RunTerminated)}},
		{false, true, []api.Event{started(3), scheduled(1), of(api.RunTimedOut)}},
		{false, true, []api.Event{started(3), scheduled(1), taken(1), of(api.RunTerminated)}},
	} {
		s := mustOf(t, x.list...)
		if s.Unseen() != x.unseen || s.Settled() != x.settled {
			t.Errorf("%d: Unseen, Settled: %v, %v", i, s.Unseen(), s.Settled())
		}
	}
}

// P2: what was handed in is not kept, and what is answered is new.
func TestMemory(t *testing.T) {
	input := value.List(value.Of(1), value.List(value.Text("x")))
	e := call(1)
	e.Value = input
	s := mustOf(t, started(3), e)
	input.List[0].N = 99
	input.List[1].List[0].S = "changed"
	want := value.List(value.Of(1), value.List(value.Text("x")))
	look := func() {
		t.Helper()
		a, _ := s.Activity(1)
		if list := s.Activities(); !reflect.DeepEqual(a.Input, want) || !reflect.DeepEqual(list[0].Input, want) {
			t.Fatalf("what is kept has changed: %+v, %+v", a, list)
		}
	}
	look()
	a, _ := s.Activity(1)
	a.Input.List[1].List[0].S = "changed"
	look()
	list := s.Activities()
	list[0].Input.List[0].N = 99
	list[:cap(list)][0].Name = "changed"
	look()
	if code := s.Apply(timer(1, 8)); code != api.OK {
		t.Fatal(code)
	}
	timers := s.Timers()
	timers[0] = 99
	if got := s.Timers(); !slices.Equal(got, []int64{1}) {
		t.Errorf("Timers: %v", got)
	}
}
