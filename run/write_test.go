package run

import (
	"math"
	"reflect"
	"slices"
	"strings"
	"testing"

	"foliot/api"
	"foliot/value"
)

// answer is what one of the calls says that is to be written.
type answer struct {
	events []api.Event
	code   api.Errno
}

func answered(events []api.Event, code api.Errno) answer { return answer{events, code} }

// wantWritten: these events behind a history, and they may follow; nothing is applied by telling so.
func wantWritten(t testing.TB, ahead []api.Event, ask func(s *State) answer, want ...api.Event) {
	t.Helper()
	s := mustOf(t, ahead...)
	want = numbered(len(ahead)+1, want...)
	for range 2 {
		if got := ask(s); got.code != api.OK || !reflect.DeepEqual(got.events, want) {
			t.Fatalf("%v: %s, want %s, behind %s", got.code, printed(got.events), printed(want), printed(ahead))
		}
		wantState(t, s, numbered(1, ahead...))
	}
	mustOf(t, append(slices.Clone(ahead), want...)...)
}

// wantRefused: an error, and none; nothing changes by that.
func wantRefused(t testing.TB, ahead []api.Event, ask func(s *State) answer, want api.Errno) {
	t.Helper()
	s := mustOf(t, ahead...)
	for range 2 {
		if got := ask(s); got.code != want || got.events != nil {
			t.Fatalf("%v: %s, want %v, behind %s", got.code, printed(got.events), want, printed(ahead))
		}
		wantState(t, s, numbered(1, ahead...))
	}
}

func outside(e api.Event) func(s *State) answer {
	return func(s *State) answer { return answered(s.Outside(e)) }
}

func start(worker int64) func(s *State) answer {
	return func(s *State) answer { return answered(s.Start(worker)) }
}

func retry(why string) func(s *State) answer {
	return func(s *State) answer { return answered(s.Retry(why)) }
}

func complete(next int64, more bool, list ...api.Command) func(s *State) answer {
	return func(s *State) answer { return answered(s.Complete(next, more, list...)) }
}

// at: an event at a tick.
func at(time int64, e api.Event) api.Event {
	e.Time = time
	return e
}

// behind: a history and more events.
func behind(ahead []api.Event, more ...api.Event) []api.Event {
	return append(slices.Clone(ahead), more...)
}

// The histories of a run that begins at 3, with a task in each state.
func begun() []api.Event { return []api.Event{started(3)} }

func waits() []api.Event { return behind(begun(), scheduled(5)) }

func had() []api.Event { return behind(waits(), taken(7)) }

func done() []api.Event { return behind(had(), completed(0)) }

// P23.6: Outside takes what comes from outside alone, whatever the run is.
func TestOutsideKind(t *testing.T) {
	for kind := -1; kind <= 23; kind++ {
		if slices.Contains([]int{1, 8, 9, 10, 12, 14, 15, 19, 20}, kind) {
			continue
		}
		for _, ahead := range [][]api.Event{nil, begun(), had(), behind(begun(), of(api.RunCompleted))} {
			wantRefused(t, ahead, outside(of(kind)), api.ErrKind)
			wantRefused(t, ahead, outside(with(of(kind), func(e *api.Event) { e.ID, e.Time = 99, -1 })), api.ErrKind)
		}
	}
}

// P23.5 and P23.6: it is written, and a task at its tick, if there is none, and the run isn't over.
func TestOutside(t *testing.T) {
	first := api.Event{Time: 3, Kind: api.RunStarted, A: 9, B: 2, Name: "p", Text: "0 1 * * *", Value: value.Text("x")}
	wantWritten(t, nil, outside(first), first, at(3, scheduled(1)))
	first.ID = 1
	wantWritten(t, nil, outside(first), first, at(3, scheduled(1)))
	open := []api.Event{timer(1, 4), call(1)}
	list := []api.Event{
		{Time: 8, Kind: api.SignalReceived, Name: "go", Value: value.Of(5)},
		asks(8),
		fires(1, 8),
		{Time: 8, Kind: api.ActivityCompleted, A: 1, Value: value.List(value.Of(1))},
		{Time: 8, Kind: api.ActivityFailed, A: 1, Name: "no"},
		end(api.ActivityTimedOut, 1, 8),
	}
	over := []api.Event{{Time: 8, Kind: api.RunTerminated, Name: "why"}, {Time: 8, Kind: api.RunTimedOut}}
	for _, ahead := range [][]api.Event{begun(), waits(), had(), done()} {
		state, _, _ := mustOf(t, ahead...).Task()
		ahead = behind(ahead, open...)
		for _, e := range list {
			want := []api.Event{e}
			if state == None {
				want = append(want, at(8, scheduled(1)))
			}
			wantWritten(t, ahead, outside(e), want...)
			e.ID = len(ahead) + 1
			wantWritten(t, ahead, outside(e), want...)
		}
		for _, e := range over {
			wantWritten(t, ahead, outside(e), e)
		}
	}
	for _, last := range []api.Event{lost(), failed()} {
		wantWritten(t, behind(had(), last), outside(signal(5)), signal(5), at(5, scheduled(1)))
	}
}

// P23.5 and P23.6: what may not follow, with Check's error.
func TestOutsideRefused(t *testing.T) {
	for _, x := range []struct {
		ahead []api.Event
		e     api.Event
		want  api.Errno
	}{
		{nil, signal(4), api.ErrState},
		{nil, with(started(4), func(e *api.Event) { e.ID = 2 }), api.ErrChain},
		{begun(), started(4), api.ErrState},
		{begun(), signal(2), api.ErrRange},
		{begun(), with(signal(4), func(e *api.Event) { e.ID = 1 }), api.ErrChain},
		{begun(), fires(1, 4), api.ErrMissing},
		{behind(begun(), timer(1, 9)), fires(1, 8), api.ErrRange},
		{begun(), end(api.ActivityCompleted, 1, 4), api.ErrMissing},
		{begun(), signal(lastTick + 1), api.ErrRange},
		{begun(), with(signal(4), func(e *api.Event) { e.Name = strings.Repeat("n", 65) }), api.ErrLong},
		{behind(begun(), of(api.RunCompleted)), signal(10), api.ErrClosed},
		{behind(begun(), of(api.RunCompleted)), of(api.RunTerminated), api.ErrClosed},
	} {
		wantRefused(t, x.ahead, outside(x.e), x.want)
	}
	full := begun()
	for range 256 {
		full = append(full, signal(3))
	}
	wantWritten(t, full[:256], outside(signal(3)), signal(3), at(3, scheduled(1)))
	wantRefused(t, full, outside(signal(3)), api.ErrFull)
}

// taking: a task-started.
func taking(time, worker, b int64) api.Event {
	return api.Event{Time: time, Kind: api.TaskStarted, A: worker, B: b}
}

// P23.6: a worker takes the task that is Scheduled.
func TestStart(t *testing.T) {
	for worker, a := range map[int64]int64{math.MinInt64: 0, -1: 0, 0: 0, 1: 1, 64: 64, math.MaxInt64: math.MaxInt64} {
		wantWritten(t, waits(), start(worker), taking(3, a, 5))
		wantWritten(t, behind(waits(), signal(6), at(9, timer(1, 4))), start(worker), taking(6, a, 5))
		wantWritten(t, behind(done(), at(8, scheduled(math.MaxInt64))), start(worker), taking(3, a, math.MaxInt64))
		wantWritten(t, behind(had(), lost(), scheduled(6)), start(worker), taking(3, a, 6))
		for _, ahead := range [][]api.Event{nil, begun(), had(), done(), behind(had(), lost()), behind(had(), failed())} {
			wantRefused(t, ahead, start(worker), api.ErrState)
		}
		wantRefused(t, behind(waits(), of(api.RunTerminated)), start(worker), api.ErrClosed)
	}
}

// P23.6: a task that was lost, or went wrong, is tried once more.
func TestRetry(t *testing.T) {
	for _, x := range []struct{ b, next int64 }{
		{0, 1}, {1, 2}, {5, 6}, {1<<40 - 1, 1 << 40}, {1 << 40, 1<<40 + 1}, {1<<40 + 1, 1<<40 + 1}, {1<<40 + 2, 1<<40 + 1}, {math.MaxInt64, 1<<40 + 1},
	} {
		ahead := behind(begun(), scheduled(x.b), taken(7))
		wantWritten(t, ahead, retry(""), api.Event{Time: 3, Kind: api.TaskTimedOut, B: x.b}, at(3, scheduled(x.next)))
		for _, why := range []string{"b", "no program", strings.Repeat("w", 64)} {
			wantWritten(t, ahead, retry(why), api.Event{Time: 3, Kind: api.TaskFailed, B: x.b, Name: why}, at(3, scheduled(x.next)))
		}
		wantWritten(t, behind(ahead, signal(6)), retry(""), api.Event{Time: 6, Kind: api.TaskTimedOut, B: x.b}, at(6, scheduled(x.next)))
		wantRefused(t, ahead, retry(strings.Repeat("w", 65)), api.ErrLong)
	}
	for _, why := range []string{"", "bad"} {
		for _, ahead := range [][]api.Event{nil, begun(), waits(), done(), behind(had(), lost()), behind(had(), failed())} {
			wantRefused(t, ahead, retry(why), api.ErrState)
			wantRefused(t, ahead, retry(strings.Repeat("w", 65)), api.ErrLong)
		}
		wantRefused(t, behind(had(), of(api.RunTimedOut)), retry(why), api.ErrClosed)
	}
}

// completing: a task-completed.
func completing(time, commands, more int64) api.Event {
	return api.Event{Time: time, Kind: api.TaskCompleted, A: commands, B: more}
}

// P23.5 and P23.7: a task that wants nothing; another one is behind it, if something came meanwhile, or more is to come.
func TestCompleteOfNothing(t *testing.T) {
	wantWritten(t, had(), complete(0, false), completing(3, 0, 0))
	wantWritten(t, had(), complete(0, true), completing(3, 0, 1), at(3, scheduled(1)))
	heard := behind(had(), signal(6), at(9, timer(1, 4)))
	wantWritten(t, heard, complete(0, false), completing(6, 0, 0), at(6, scheduled(1)))
	wantWritten(t, heard, complete(0, true), completing(6, 0, 1), at(6, scheduled(1)))
	wantWritten(t, behind(begun(), scheduled(1), signal(6), taken(7)), complete(0, false), completing(6, 0, 0))
	wantWritten(t, behind(had(), completed(1), scheduled(2), taken(7)), complete(0, false), completing(3, 0, 0))
}

// P23.7: each command comes to its event, at its own tick.
func TestCompleteOfCommands(t *testing.T) {
	pay := api.Command{Kind: api.Schedule, Time: 4, A: 1, B: 77, Name: "pay", Value: value.List(value.Of(1))}
	sleep := api.Command{Kind: api.StartTimer, Time: 5, A: 2, B: 6}
	cancel := api.Command{Kind: api.CancelTimer, Time: 2, A: 1}
	ahead := behind(begun(), timer(1, 9), scheduled(1), taken(7))
	paid := api.Event{Time: 4, Kind: api.ActivityScheduled, A: 1, B: 77, Name: "pay", Value: value.List(value.Of(1))}
	slept := at(5, timer(2, 11))
	gone := at(2, canceled(1))
	wantWritten(t, ahead, complete(9, false, pay, sleep, cancel), completing(3, 3, 0), paid, slept, gone)
	wantWritten(t, ahead, complete(9, true, cancel, pay), completing(3, 2, 1), gone, paid, at(3, scheduled(1)))
	both := api.Command{Kind: api.CancelTimer, Time: 5, A: 2}
	wantWritten(t, ahead, complete(9, false, sleep, both), completing(3, 2, 0), slept, at(5, canceled(2)))
	far := api.Command{Kind: api.StartTimer, Time: lastTick, A: 2, B: 1}
	wantWritten(t, ahead, complete(9, false, far), completing(3, 1, 0), at(lastTick, timer(2, lastTick)))
}

// P23.5 and P23.7: a command that ends the run; no task is behind it, whatever came meanwhile.
func TestCompleteOfEnds(t *testing.T) {
	for _, more := range []int64{0, 1} {
		for _, ahead := range [][]api.Event{had(), behind(had(), signal(3))} {
			c := api.Command{Kind: api.Complete, Time: 4, Value: value.Of(5)}
			e := api.Event{Time: 4, Kind: api.RunCompleted, Value: value.Of(5)}
			wantWritten(t, ahead, complete(9, more > 0, c), completing(3, 1, more), e)
			c = api.Command{Kind: api.Fail, Time: 4, Name: "no"}
			e = api.Event{Time: 4, Kind: api.RunFailed, Name: "no"}
			wantWritten(t, ahead, complete(9, more > 0, c), completing(3, 1, more), e)
			c = api.Command{Kind: api.Again, Time: 4, Value: value.Text("x")}
			for next, b := range map[int64]int64{9: 9, 0: 0, 1: 1, -1: 0, math.MinInt64: 0, math.MaxInt64: math.MaxInt64} {
				e = api.Event{Time: 4, Kind: api.ContinuedAsNew, B: b, Value: value.Text("x")}
				wantWritten(t, ahead, complete(next, more > 0, c), completing(3, 1, more), e)
			}
		}
	}
}

// P23.7: a cancel-timer of a timer that has fired comes too late, whenever that fired; it counts among the commands.
func TestCompleteTooLate(t *testing.T) {
	cancel := func(id int64) api.Command { return api.Command{Kind: api.CancelTimer, Time: 3, A: id} }
	ahead := behind(begun(), timer(1, 3), timer(2, 3), timer(3, 3), fires(1, 3), scheduled(1), taken(7))
	meanwhile := behind(ahead, fires(3, 4))
	wantWritten(t, ahead, complete(0, false, cancel(1)), completing(3, 1, 0))
	wantWritten(t, ahead, complete(0, false, cancel(1), cancel(2), cancel(1)), completing(3, 3, 0), at(3, canceled(2)))
	wantWritten(t, meanwhile, complete(0, false, cancel(3), cancel(2)), completing(4, 2, 0), at(3, canceled(2)), at(4, scheduled(1)))
	wantRefused(t, ahead, complete(0, false, cancel(2), cancel(2)), api.ErrMissing)
	wantRefused(t, behind(ahead, canceled(2)), complete(0, false, cancel(2)), api.ErrMissing)
	wantRefused(t, ahead, complete(0, false, cancel(4)), api.ErrMissing)
	wantRefused(t, ahead, complete(0, false, cancel(0)), api.ErrMissing)
	pay := api.Command{Kind: api.Schedule, Time: 3, A: 1, Name: "pay"} // an activity of a timer's number
	wantWritten(t, ahead, complete(0, false, pay), completing(3, 1, 0), api.Event{Time: 3, Kind: api.ActivityScheduled, A: 1, Name: "pay"})
	old := behind(ahead, completed(0))
	for range 300 {
		old = append(old, asks(5))
	}
	wantWritten(t, behind(old, scheduled(1), taken(7)), complete(0, false, cancel(1)), completing(5, 1, 0))
}

// P23.7: layer 10's All's error first, then what may not follow.
func TestCompleteRefused(t *testing.T) {
	sleep := api.Command{Kind: api.StartTimer, Time: 3, A: 1, B: 5}
	pay := api.Command{Kind: api.Schedule, Time: 3, A: 1, Name: "pay"}
	over := api.Command{Kind: api.Complete, Time: 3}
	number := func(c api.Command, id int64) api.Command {
		c.A = id
		return c
	}
	closed := behind(had(), of(api.RunTerminated))
	knot := api.Value{Kind: api.List, List: make([]api.Value, 1)}
	knot.List[0] = knot
	for _, x := range []struct {
		ahead []api.Event
		list  []api.Command
		want  api.Errno
	}{
		{nil, nil, api.ErrState},
		{begun(), nil, api.ErrState},
		{waits(), nil, api.ErrState},
		{done(), nil, api.ErrState},
		{closed, nil, api.ErrClosed},
		{closed, []api.Command{{}}, api.ErrKind},
		{nil, []api.Command{{Kind: 7}}, api.ErrKind},
		{had(), []api.Command{over, sleep}, api.ErrState},
		{closed, []api.Command{number(sleep, -1)}, api.ErrRange},
		{had(), []api.Command{sleep, {Kind: api.Complete, Time: -1}}, api.ErrRange},
		{had(), []api.Command{number(sleep, 9), {Kind: api.Complete, Name: "n"}}, api.ErrForm},
		{had(), []api.Command{sleep, {Kind: api.Complete, Value: knot}}, api.ErrDeep},
		{closed, make([]api.Command, 257), api.ErrLong},
		{had(), []api.Command{number(sleep, 0)}, api.ErrTwice},
		{had(), []api.Command{sleep, sleep}, api.ErrTwice},
		{had(), []api.Command{number(sleep, 2)}, api.ErrRange},
		{had(), []api.Command{pay, pay}, api.ErrTwice},
		{had(), []api.Command{pay, number(pay, 3)}, api.ErrRange},
		{behind(begun(), timer(1, 4), scheduled(1), taken(7)), []api.Command{sleep}, api.ErrTwice},
		{had(), []api.Command{sleep, {Kind: api.CancelTimer, A: 1}, {Kind: api.CancelTimer, A: 1}}, api.ErrMissing},
		{had(), []api.Command{{Kind: api.CancelTimer, A: 1}, sleep}, api.ErrMissing},
	} {
		for _, more := range []bool{false, true} {
			wantRefused(t, x.ahead, complete(9, more, x.list...), x.want)
		}
	}
}

// P23.5 and P23.7: as many commands as one task has at most, and as many timers and activities as are open at most.
func TestCompleteOfMany(t *testing.T) {
	var list []api.Command
	want := []api.Event{completing(3, 256, 0)}
	for i := range int64(128) {
		list = append(list, api.Command{Kind: api.StartTimer, Time: 3, A: i + 1, B: 4}, api.Command{Kind: api.Schedule, Time: 2, A: i + 1, B: 6, Name: "pay", Value: value.Of(i + 1)})
		want = append(want, at(3, timer(i+1, 7)), call(i+1))
	}
	wantWritten(t, had(), complete(0, false, list...), want...)
	wantRefused(t, behind(begun(), timer(1, 3), scheduled(1), taken(7)), complete(0, false, list...), api.ErrTwice)
	wantRefused(t, had(), complete(0, false, append(list, api.Command{Kind: api.Complete})...), api.ErrLong)
	ahead := behind(begun(), call(1), scheduled(1), taken(7))
	var sleeps []api.Command
	for i := range int64(256) {
		sleeps = append(sleeps, api.Command{Kind: api.StartTimer, Time: 3, A: i + 1, B: 4})
	}
	wantRefused(t, ahead, complete(0, false, sleeps...), api.ErrFull)
	want = []api.Event{completing(3, 255, 0)}
	for i := range int64(255) {
		want = append(want, at(3, timer(i+1, 7)))
	}
	wantWritten(t, ahead, complete(0, false, sleeps[:255]...), want...)
}

// P2: what is handed in is neither changed nor kept, and what is answered is new memory.
func TestWrittenMemory(t *testing.T) {
	list := func() api.Value { return value.List(value.Of(1), value.List(value.Text("x"))) }
	spoil := func(v api.Value) {
		v.List[0].N = 99
		v.List[1].List[0].S = "changed"
	}
	s := mustOf(t, had()...)
	pay := api.Command{Kind: api.Schedule, Time: 3, A: 1, Name: "pay", Value: list()}
	commands := append(make([]api.Command, 0, 9), pay)
	first, code := s.Complete(0, true, commands...)
	if code != api.OK || !reflect.DeepEqual(commands[0], pay) || !reflect.DeepEqual(commands[:9][1], api.Command{}) {
		t.Fatalf("%v, %+v", code, commands[:9])
	}
	second, _ := s.Complete(0, true, commands...)
	spoil(pay.Value)
	spoil(second[1].Value)
	if !reflect.DeepEqual(first[1].Value, list()) {
		t.Errorf("an answer has changed: %+v", first[1])
	}
	if code := s.Apply(first[0]); code != api.OK {
		t.Fatal(code)
	}
	if code := s.Apply(first[1]); code != api.OK {
		t.Fatal(code)
	}
	spoil(first[1].Value)
	if a, _ := s.Activity(1); !reflect.DeepEqual(a.Input, list()) {
		t.Errorf("what is kept has changed: %+v", a)
	}
	e := api.Event{Time: 4, Kind: api.SignalReceived, Name: "go", Value: list()}
	got, _ := s.Outside(e)
	spoil(got[0].Value)
	if !reflect.DeepEqual(e.Value, list()) {
		t.Errorf("what was handed in has changed: %+v", e)
	}
	got, _ = s.Outside(e)
	spoil(e.Value)
	if !reflect.DeepEqual(got[0].Value, list()) {
		t.Errorf("an answer has changed: %+v", got[0])
	}
}
