package engine

import (
	"math"
	"reflect"
	"strconv"
	"strings"
	"testing"

	"foliot/api"
	"foliot/run"
	"foliot/value"
)

// P25.4: what a worker is given, and what is written.
func TestPoll(t *testing.T) {
	x := fresh(t, 3)
	starts(t, x, "w", "sleep")
	starts(t, x, "v", "ears")
	ticks(t, x, 2)
	task := polls(t, x, 4)
	wantEvents(t, x, 1, 1, `1 @3 run-started 0 0 "sleep" "" "in"`, `2 @3 task-scheduled 1`, `3 @3 task-started 4 1`)
	if task.Token != 1 || task.Job.Run != 1 || !reflect.DeepEqual(task.Job.Events, x.Store().All(1)) || !reflect.DeepEqual(task.Job.Image, parsed(t, "sleep", sleep).Image()) {
		t.Errorf("Poll: %+v", task)
	}
	wantWaiting(t, x, flow(2))
	if l := x.Match().Leases(); len(l) != 1 || l[0].Task != flow(1) || l[0].Worker != 4 || l[0].Until != 25 {
		t.Errorf("Leases: %v", l)
	}
	if task = polls(t, x, 64); task.Token != 2 || task.Job.Run != 2 {
		t.Errorf("Poll: %+v", task)
	}
	if r, e := Wants(task); e != api.OK || len(r.Commands) != 0 || r.Cached || r.Read != 3 {
		t.Errorf("Wants: %+v, %v", r, e)
	}
	task.Job.Image = api.Image{}
	if r, e := Wants(task); e != api.ErrShort || !reflect.DeepEqual(r.Commands, []api.Command(nil)) {
		t.Errorf("Wants: %+v, %v", r, e)
	}
}

// P25.4: layer 21's errors.
func TestPollErrors(t *testing.T) {
	x := fresh(t, 0)
	poll := func(id int, code api.Errno) {
		t.Helper()
		refused(t, x, "Poll", func() api.Errno {
			task, e := x.Poll(id)
			if !reflect.DeepEqual(task, Task{}) {
				t.Errorf("Poll: %+v", task)
			}
			return e
		}, code)
		refused(t, x, "PollCall", func() api.Errno {
			c, e := x.PollCall(id)
			if !reflect.DeepEqual(c, Call{}) {
				t.Errorf("PollCall: %+v", c)
			}
			return e
		}, code)
	}
	poll(1, api.ErrMissing)
	starts(t, x, "w", "pay")
	for _, id := range []int{math.MinInt, -1, 0, 65, math.MaxInt} {
		poll(id, api.ErrRange)
	}
	does(t, x, 1)
	takes(t, x, 2)
	poll(2, api.ErrMissing)
	want(t, "Signal", x.Signal("w", "go", api.Value{}), api.OK)
	refused(t, x, "Poll for what waits for another one", func() api.Errno { _, e := x.Poll(2); return e }, api.ErrMissing)
	polls(t, x, 1)
}

// P25.4: no more than 256 tasks are had.
func TestPollFull(t *testing.T) {
	p := all(t)
	lines := strings.Repeat("push 1; push 0; call \"a\"; pop; ", 63)
	p.Add(parsed(t, "many", lines+"signal \"go\"; return"))
	x := open(t, newDisk(t, 4000), p, 0)
	for i := range 5 {
		starts(t, x, "w"+strconv.Itoa(i), "many")
		does(t, x, 1)
		for range min(63, 256-63*i) {
			takes(t, x, 2+i)
		}
	}
	starts(t, x, "v", "ears")
	if n := len(x.Match().Leases()); n != 256 {
		t.Fatalf("%d leases", n)
	}
	refused(t, x, "Poll", func() api.Errno { _, e := x.Poll(1); return e }, api.ErrFull)
	refused(t, x, "PollCall", func() api.Errno { _, e := x.PollCall(1); return e }, api.ErrFull)
	refused(t, x, "Poll", func() api.Errno { _, e := x.Poll(0); return e }, api.ErrRange)
	want(t, "CompleteCall", x.CompleteCall(6, api.Value{}), api.OK)
	polls(t, x, 1)
}

// P25.2 and P25.4: the worker has the run in mind: the run's tasks wait for it, until somebody else takes one, or for anybody after a while.
func TestMind(t *testing.T) {
	x := fresh(t, 0)
	n := starts(t, x, "w", "ears")
	does(t, x, 3)
	want(t, "Signal", x.Signal("w", "go", api.Value{}), api.OK)
	wantWhere(t, x, flow(n), 3)
	_, e := x.Poll(2)
	want(t, "Poll", e, api.ErrMissing)
	ticks(t, x, 4)
	wantWhere(t, x, flow(n), 3)
	ticks(t, x, 1)
	wantWhere(t, x, flow(n), 0)
	does(t, x, 2)
	want(t, "Signal", x.Signal("w", "go", api.Value{}), api.OK)
	wantWhere(t, x, flow(n), 2)
	task := polls(t, x, 2)
	want(t, "Fail", x.Fail(task.Token, "oh"), api.OK)
	wantWhere(t, x, flow(n), 2)
	want(t, "Terminate", x.Terminate("w", ""), api.OK)
	starts(t, x, "w", "ears")
	wantWhere(t, x, flow(2), 0)
}

// fill: a run's signals take all the room that the store has, until this many bytes of names find none.
func fill(t *testing.T, x *Engine, name string) {
	t.Helper()
	for size := 64; size >= 0; size-- {
		for x.Signal(name, strings.Repeat("s", size), api.Value{}) == api.OK {
		}
	}
	want(t, "Signal", x.Signal(name, "", api.Value{}), api.ErrFull)
}

// P25.4: if it can't be written that a worker takes a task, that waits again.
func TestPollWithoutRoom(t *testing.T) {
	for _, mind := range []int{0, 5} {
		x := open(t, newDisk(t, 34), all(t), 0)
		starts(t, x, "w", "ears")
		starts(t, x, "v", "sleep")
		if mind > 0 {
			does(t, x, mind)
			want(t, "Signal", x.Signal("w", "go", api.Value{}), api.OK)
		}
		fill(t, x, "w")
		if mind > 0 {
			wantWaiting(t, x, flow(2), flow(1))
		} else {
			wantWaiting(t, x, flow(1), flow(2))
		}
		state := string(x.Store().State())
		task, e := x.Poll(max(mind, 1))
		want(t, "Poll", e, api.ErrFull)
		if !reflect.DeepEqual(task, Task{}) || len(x.Match().Leases()) != 0 || string(x.Store().State()) != state || !x.Right() {
			t.Errorf("Poll: %+v", task)
		}
		wantWaiting(t, x, flow(2), flow(1))
		wantWhere(t, x, flow(1), mind)
		if k, _, _ := x.State(1).Task(); k != run.Scheduled {
			t.Errorf("Task: %d", k)
		}
	}
}

// P25.4: a run has no room for more than 4096 events.
func TestPollLong(t *testing.T) {
	x := open(t, newDisk(t, 4096), all(t), 0)
	n := starts(t, x, "w", "ears")
	for len(x.Store().All(n)) < 4094 {
		task := polls(t, x, 1)
		want(t, "Fail", x.Fail(task.Token, "w"), api.OK)
	}
	task := polls(t, x, 1)
	refused(t, x, "Fail", func() api.Errno { return x.Fail(task.Token, "w") }, api.ErrFull)
	refused(t, x, "Complete", func() api.Errno { return x.Complete(task.Token, true) }, api.ErrFull)
	want(t, "Signal", x.Signal("w", "go", api.Value{}), api.OK)
	want(t, "Tick", x.Tick(20), api.ErrFull)
	if x.State(n).Len() != 4096 || x.Now() != 20 || len(x.Match().Leases()) != 0 || !x.Right() {
		t.Errorf("%d events", x.State(n).Len())
	}
}

// P25.4: a task without a program has gone wrong, and waits for who took it.
func TestPollWithoutProgram(t *testing.T) {
	d := newDisk(t, 300)
	starts(t, open(t, d, all(t), 0), "w", "ears")
	x := open(t, d, programs(t, "sleep", sleep), 1)
	for i := range int64(2) {
		task, e := x.Poll(7)
		want(t, "Poll", e, api.ErrOther)
		if !reflect.DeepEqual(task, Task{}) || len(x.Match().Leases()) != 0 || x.Store().Batches() != 2+2*i {
			t.Errorf("Poll: %+v, %d batches", task, x.Store().Batches())
		}
		wantWhere(t, x, flow(1), 7)
	}
	wantEvents(t, x, 1, 3,
		`3 @0 task-started 7 1`, `4 @0 task-failed 1 "no program"`, `5 @0 task-scheduled 2`,
		`6 @0 task-started 7 2`, `7 @0 task-failed 2 "no program"`, `8 @0 task-scheduled 3`)
	x.programs["ears"] = nil
	_, e := x.Poll(7)
	want(t, "Poll", e, api.ErrOther)
	x.programs.Add(parsed(t, "sleep2", sleep))
	x.programs["ears"] = parsed(t, "ears", ears)
	does(t, x, 7)
}

// P25.4 and P25.7: if it finds no room that a task without a program has gone wrong, nobody has it, and each Tick finds it.
func TestPollWithoutProgramOrRoom(t *testing.T) {
	found := 0
	for size := range 65 {
		x := open(t, newDisk(t, 34), all(t), 0)
		starts(t, x, "w", "ears")
		for x.Signal("w", strings.Repeat("s", size), api.Value{}) == api.OK {
		}
		x.programs = Programs{}
		was := x.State(1).Len()
		_, e := x.Poll(1)
		if e == api.ErrOther || x.State(1).Len() == was {
			continue
		}
		found++
		want(t, "Poll", e, api.ErrFull)
		if !x.isTask(1, run.Started) || len(x.Match().Leases()) != 0 || !x.Right() {
			t.Fatal("the task")
		}
		if e := x.Tick(0); e == api.OK != x.isTask(1, run.Scheduled) || e != api.OK && e != api.ErrFull || !x.Right() {
			t.Fatalf("Tick: %v", e)
		}
	}
	if found == 0 {
		t.Error("there was room for both, or for none")
	}
}

// P25.5: ErrToken.
func TestTokens(t *testing.T) {
	x := fresh(t, 0)
	starts(t, x, "w", "pay")
	starts(t, x, "v", "ears")
	does(t, x, 1)
	c := takes(t, x, 1)
	task := polls(t, x, 1)
	bad, long := api.Command{Kind: 77}, strings.Repeat("x", 65)
	for _, token := range []uint64{0, 1, c.Token, 4, math.MaxUint64} {
		refused(t, x, "Complete", func() api.Errno { return x.Complete(token, false, bad) }, api.ErrToken)
		refused(t, x, "Fail", func() api.Errno { return x.Fail(token, long) }, api.ErrToken)
	}
	for _, token := range []uint64{0, 1, task.Token, 4, math.MaxUint64} {
		refused(t, x, "CompleteCall", func() api.Errno { return x.CompleteCall(token, api.Value{Kind: 77}) }, api.ErrToken)
		refused(t, x, "FailCall", func() api.Errno { return x.FailCall(token, long) }, api.ErrToken)
	}
	want(t, "Complete", x.Complete(task.Token, false), api.OK)
	want(t, "CompleteCall", x.CompleteCall(c.Token, api.Value{}), api.OK)
	refused(t, x, "Complete", func() api.Errno { return x.Complete(task.Token, false) }, api.ErrToken)
	refused(t, x, "CompleteCall", func() api.Errno { return x.CompleteCall(c.Token, api.Value{}) }, api.ErrToken)
}

// P25.5: a task is completed with commands; what came meanwhile is behind them.
func TestComplete(t *testing.T) {
	x := fresh(t, 2)
	n := starts(t, x, "w", "ears")
	task := polls(t, x, 1)
	want(t, "Signal", x.Signal("w", "go", api.Value{}), api.OK)
	ticks(t, x, 1)
	batches := x.Store().Batches()
	want(t, "Complete", x.Complete(task.Token, false,
		api.Command{Kind: api.StartTimer, Time: 2, A: 1, B: 9},
		api.Command{Kind: api.Schedule, Time: 2, A: 1, Name: "pay", Value: value.Of(4)}), api.OK)
	wantEvents(t, x, n, 5, `5 @2 task-completed 2 0`, `6 @2 timer-started 1 11`, `7 @2 activity-scheduled 1 0 "pay" 4`, `8 @2 task-scheduled 1`)
	wantWaiting(t, x, activity(n, 1), flow(n))
	wantDue(t, x, 11, true)
	task = polls(t, x, 1)
	want(t, "Complete", x.Complete(task.Token, true, api.Command{Kind: api.CancelTimer, Time: 2, A: 1}), api.OK)
	wantEvents(t, x, n, 10, `10 @2 task-completed 1 1`, `11 @2 timer-canceled 1`, `12 @2 task-scheduled 1`)
	task = polls(t, x, 1)
	want(t, "Complete", x.Complete(task.Token, false), api.OK)
	wantEvents(t, x, n, 14, `14 @2 task-completed 0 0`)
	if x.Store().Batches() != batches+5 {
		t.Errorf("%d batches, behind %d", x.Store().Batches(), batches)
	}
	wantDue(t, x, 0, false)
}

// P25.5: what may not be makes the task go wrong: that is written, and nothing else.
func TestCompleteWrong(t *testing.T) {
	x := fresh(t, 2)
	n := starts(t, x, "w", "ears")
	line := 3
	deep := value.List()
	for range 8 {
		deep = value.List(deep)
	}
	for code, list := range map[api.Errno][]api.Command{
		api.ErrKind:    {{Kind: 77}},
		api.ErrState:   {{Kind: api.Complete}, {Kind: api.Complete}},
		api.ErrMissing: {{Kind: api.CancelTimer, A: 1}},
		api.ErrRange:   {{Kind: api.StartTimer, A: 2}},
		api.ErrTwice:   {{Kind: api.StartTimer, A: 1}, {Kind: api.StartTimer, A: 1}},
		api.ErrLong:    make([]api.Command, 257),
		api.ErrDeep:    {{Kind: api.Again, Value: deep}},
	} {
		task := polls(t, x, 3)
		batches := x.Store().Batches()
		want(t, "Complete", x.Complete(task.Token, false, list...), code)
		try := strconv.Itoa(line / 3)
		wantEvents(t, x, n, line, strconv.Itoa(line)+` @2 task-started 3 `+try,
			strconv.Itoa(line+1)+` @2 task-failed `+try+` "bad"`, strconv.Itoa(line+2)+` @2 task-scheduled `+strconv.Itoa(line/3+1))
		wantWhere(t, x, flow(n), 3)
		if len(x.Match().Leases()) != 0 || x.Store().Batches() != batches+1 || x.Store().Next() != 2 {
			t.Errorf("Leases: %v", x.Match().Leases())
		}
		refused(t, x, "Complete", func() api.Errno { return x.Complete(task.Token, false) }, api.ErrToken)
		line += 3
	}
	does(t, x, 3)
}

// P25.5: a task whose batch is refused is had on.
func TestCompleteTooLong(t *testing.T) {
	x := fresh(t, 2)
	starts(t, x, "w", "ears")
	task := polls(t, x, 3)
	var list []api.Command
	for i := range int64(8) {
		list = append(list, api.Command{Kind: api.Schedule, A: i + 1, Name: "pay", Value: value.Text(strings.Repeat("a", 250))})
	}
	refused(t, x, "Complete", func() api.Errno { return x.Complete(task.Token, false, list...) }, api.ErrLong)
	want(t, "Complete", x.Complete(task.Token, false, list[:7]...), api.OK)
}

// P25.5: a run goes on as a new one, in the same batch.
func TestAgain(t *testing.T) {
	x := fresh(t, 2)
	_, e := x.Start("w", "on", value.Of(1), 50, "5 * * * *")
	want(t, "Start", e, api.OK)
	starts(t, x, "v", "ears")
	does(t, x, 3)
	does(t, x, 4)
	ticks(t, x, 3)
	want(t, "Signal", x.Signal("w", "go", value.Of(7)), api.OK)
	ticks(t, x, 1)
	batches := x.Store().Batches()
	does(t, x, 3)
	if x.Store().Batches() != batches+2 {
		t.Errorf("%d batches more", x.Store().Batches()-batches)
	}
	wantEvents(t, x, 1, 5, `5 @5 signal-received "go" 7`, `6 @5 task-scheduled 1`, `7 @5 task-started 3 1`, `8 @5 task-completed 1 0`, `9 @5 continued-as-new 3 7`)
	wantEvents(t, x, 3, 1, `1 @6 run-started 50 1 "on" "5 * * * *" 7`, `2 @6 task-scheduled 1`)
	if info, _ := x.Store().Info(3); info.Name != "w" || info.Place != 2 || x.Store().Find("w") != 3 {
		t.Errorf("Info: %+v", info)
	}
	wantWaiting(t, x, flow(3))
	wantWhere(t, x, flow(3), 0)
	wantDue(t, x, 56, true)
	if x.Timers().Len() != 1 {
		t.Errorf("%d are due", x.Timers().Len())
	}
}

// P25.5: there is no room for a new run: nothing is written, and the task is had on.
func TestAgainFull(t *testing.T) {
	x := open(t, newDisk(t, 4000), all(t), 0)
	starts(t, x, "w", "on")
	task := polls(t, x, 1)
	for i := range 255 {
		starts(t, x, "v"+strconv.Itoa(i), "quick")
	}
	refused(t, x, "Complete", func() api.Errno { return x.Complete(task.Token, false, api.Command{Kind: api.Again}) }, api.ErrFull)
	does(t, x, 2)
	want(t, "Forget", x.Forget(2), api.OK)
	want(t, "Complete", x.Complete(task.Token, false, api.Command{Kind: api.Again}), api.OK)
	wantEvents(t, x, 257, 1, `1 @0 run-started 0 1 "on" "" nil`, `2 @0 task-scheduled 1`)
}

// P25.5: an again that isn't written begins no run.
func TestAgainWrong(t *testing.T) {
	x := fresh(t, 0)
	starts(t, x, "w", "on")
	task := polls(t, x, 1)
	want(t, "Complete", x.Complete(task.Token, false, api.Command{Kind: api.Again}, api.Command{Kind: api.Again}), api.ErrState)
	task = polls(t, x, 1)
	want(t, "Complete", x.Complete(task.Token, false, api.Command{Kind: api.StartTimer, A: 5}, api.Command{Kind: api.Again}), api.ErrRange)
	if x.Store().Next() != 2 || len(x.Store().Runs()) != 1 {
		t.Error("a new run")
	}
}

// P25.5: Fail.
func TestFail(t *testing.T) {
	x := fresh(t, 2)
	n := starts(t, x, "w", "ears")
	task := polls(t, x, 3)
	refused(t, x, "Fail", func() api.Errno { return x.Fail(task.Token, strings.Repeat("x", 65)) }, api.ErrLong)
	want(t, "Fail", x.Fail(task.Token, ""), api.OK)
	refused(t, x, "Fail", func() api.Errno { return x.Fail(task.Token, "") }, api.ErrToken)
	task = polls(t, x, 3)
	want(t, "Fail", x.Fail(task.Token, "no"), api.OK)
	wantEvents(t, x, n, 3, `3 @2 task-started 3 1`, `4 @2 task-failed 1 "failed"`, `5 @2 task-scheduled 2`,
		`6 @2 task-started 3 2`, `7 @2 task-failed 2 "no"`, `8 @2 task-scheduled 3`)
	wantWhere(t, x, flow(n), 3)
	task = polls(t, x, 3)
	want(t, "Fail", x.Fail(task.Token, strings.Repeat("x", 64)), api.OK)
}

// P25.5: nobody has a task by a token any more when the time is over.
func TestTooLate(t *testing.T) {
	d := newDisk(t, 500)
	x := open(t, d, all(t), 0)
	n := starts(t, x, "w", "ears")
	task := polls(t, x, 3)
	ticks(t, x, 19)
	want(t, "Complete", x.Complete(task.Token, false), api.OK)
	want(t, "Signal", x.Signal("w", "go", api.Value{}), api.OK)
	task = polls(t, x, 3)
	ticks(t, x, 20)
	refused(t, x, "Complete", func() api.Errno { return x.Complete(task.Token, false) }, api.ErrToken)
	wantEvents(t, x, n, 7, `7 @19 task-started 3 1`, `8 @19 task-timed-out 1`, `9 @19 task-scheduled 2`)
	wantWhere(t, x, flow(n), 3)
}
