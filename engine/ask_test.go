package engine

import (
	"math"
	"reflect"
	"slices"
	"strconv"
	"strings"
	"testing"

	"foliot/api"
	"foliot/event"
	"foliot/machine"
	"foliot/value"
	"foliot/worker"
)

// wantStart: a Start is refused, and nothing changes.
func wantStart(t *testing.T, x *Engine, name, program string, input api.Value, ticks int64, again string, code api.Errno) {
	t.Helper()
	p := pictureOf(x)
	n, e := x.Start(name, program, input, ticks, again)
	want(t, "Start", e, code)
	if n != 0 {
		t.Fatalf("Start: %d, beside an error", n)
	}
	p.same(t, x)
}

// refused: a call is refused, and nothing changes.
func refused(t *testing.T, x *Engine, what string, f func() api.Errno, code api.Errno) {
	t.Helper()
	p := pictureOf(x)
	want(t, what, f(), code)
	p.same(t, x)
}

// P25.3: what a run begins with, and its number.
func TestStart(t *testing.T) {
	x := fresh(t, 7)
	n, e := x.Start("w", "ears", value.List(value.Of(1)), 30, "* * * * *")
	want(t, "Start", e, api.OK)
	if n != 1 || x.Store().Find("w") != 1 {
		t.Errorf("Start: %d", n)
	}
	wantEvents(t, x, 1, 1, `1 @7 run-started 30 0 "ears" "* * * * *" [1]`, `2 @7 task-scheduled 1`)
	wantWaiting(t, x, flow(1))
	wantDue(t, x, 37, true)
	for i, name := range []string{"", "v", strings.Repeat("n", 64)} {
		n, e := x.Start(name, "sleep", api.Value{}, 0, "")
		want(t, "Start", e, api.OK)
		if n != i+2 {
			t.Errorf("Start: %d", n)
		}
		wantEvents(t, x, n, 1, `1 @7 run-started 0 0 "sleep" "" nil`, `2 @7 task-scheduled 1`)
	}
	wantWaiting(t, x, flow(1), flow(2), flow(3), flow(4))
	if x.Store().Batches() != 4 {
		t.Errorf("%d batches", x.Store().Batches())
	}
}

// P25.3: Start's errors, in order.
func TestStartErrors(t *testing.T) {
	x := fresh(t, 7)
	starts(t, x, "w", "sleep")
	bad := api.Value{Kind: 9}
	long := strings.Repeat("n", 65)
	wantStart(t, x, "w", "", bad, -1, "?", api.ErrMissing)
	wantStart(t, x, "w", "slee", bad, -1, "?", api.ErrMissing)
	wantStart(t, x, "w", long, bad, -1, "?", api.ErrMissing)
	wantStart(t, x, "w", "sleep", bad, -1, "?", api.ErrField)
	wantStart(t, x, "w", "sleep", bad, -1, "60 * * * *", api.ErrRange)
	wantStart(t, x, "w", "sleep", bad, -1, " ", api.ErrField)
	wantStart(t, x, "w", "sleep", bad, -1, strings.Repeat("* ", 70), api.ErrLong)
	wantStart(t, x, "w", "sleep", bad, -1, "* * * * *", api.ErrBusy)
	wantStart(t, x, "w", "sleep", bad, -1, "", api.ErrBusy)
	wantStart(t, x, long, "sleep", bad, -1, "", api.ErrRange)
	wantStart(t, x, long, "sleep", bad, math.MinInt64, "", api.ErrRange)
	wantStart(t, x, long, "sleep", bad, 0, "", api.ErrKind)
	wantStart(t, x, long, "sleep", value.Text(strings.Repeat("a", 257)), 0, "", api.ErrLong)
	wantStart(t, x, long, "sleep", api.Value{}, 0, "", api.ErrLong)
	n, e := x.Start("v", "sleep", api.Value{}, math.MaxInt64, "")
	want(t, "Start", e, api.OK)
	wantEvents(t, x, n, 1, `1 @7 run-started 9223372036854775807 0 "sleep" "" nil`, `2 @7 task-scheduled 1`)
	wantDue(t, x, event.MaxTime, true)
}

// P25.3: a workflow whose last run is over begins once more; ErrBusy as long as it isn't.
func TestStartAgain(t *testing.T) {
	x := fresh(t, 0)
	for i := range 4 {
		if n := starts(t, x, "w", "quick"); n != i+1 {
			t.Errorf("Start: %d", n)
		}
		wantStart(t, x, "w", "quick", api.Value{}, 0, "", api.ErrBusy)
		does(t, x, 1)
	}
	if info, _ := x.Store().Info(4); info.Place != 4 || info.Name != "w" {
		t.Errorf("Info: %+v", info)
	}
}

// P25.3: there is room for 256 runs.
func TestStartFull(t *testing.T) {
	x := open(t, newDisk(t, 4000), all(t), 0)
	for i := range 256 {
		starts(t, x, "w"+strconv.Itoa(i), "quick")
	}
	wantStart(t, x, "v", "quick", api.Value{}, 0, "", api.ErrFull)
	does(t, x, 1)
	wantStart(t, x, "v", "quick", api.Value{}, 0, "", api.ErrFull)
	want(t, "Forget", x.Forget(1), api.OK)
	if n := starts(t, x, "v", "quick"); n != 257 {
		t.Errorf("Start: %d", n)
	}
}

// P25.3: what comes for a workflow's last run is written at the tick.
func TestSend(t *testing.T) {
	x := fresh(t, 4)
	starts(t, x, "w", "quick")
	does(t, x, 1)
	starts(t, x, "v", "ears")
	starts(t, x, "w", "ears")
	want(t, "Signal", x.Signal("w", "go", value.Of(3)), api.OK)
	ticks(t, x, 2)
	want(t, "Signal", x.Signal("w", "", api.Value{}), api.OK)
	want(t, "Cancel", x.Cancel("w"), api.OK)
	want(t, "Cancel", x.Cancel("w"), api.OK)
	want(t, "Terminate", x.Terminate("w", "enough"), api.OK)
	wantEvents(t, x, 3, 3, `3 @4 signal-received "go" 3`, `4 @6 signal-received "" nil`, `5 @6 cancel-requested`, `6 @6 cancel-requested`, `7 @6 run-terminated "enough"`)
	want(t, "Terminate", x.Terminate("v", ""), api.OK)
	wantEvents(t, x, 2, 3, `3 @6 run-terminated ""`)
	wantEvents(t, x, 1, 5, `5 @4 run-completed "in"`)
}

// P25.3: a task is behind what comes, if there is none.
func TestSendWakes(t *testing.T) {
	x := fresh(t, 0)
	n := starts(t, x, "w", "ears")
	does(t, x, 3)
	wantWaiting(t, x)
	want(t, "Signal", x.Signal("w", "go", value.Of(3)), api.OK)
	wantEvents(t, x, n, 5, `5 @0 signal-received "go" 3`, `6 @0 task-scheduled 1`)
	wantWhere(t, x, flow(n), 3)
	does(t, x, 3)
	ticks(t, x, 1)
	want(t, "Cancel", x.Cancel("w"), api.OK)
	wantEvents(t, x, n, 9, `9 @1 cancel-requested`, `10 @1 task-scheduled 1`)
}

// P25.3: Signal's, Cancel's and Terminate's errors, in order.
func TestSendErrors(t *testing.T) {
	x := fresh(t, 4)
	starts(t, x, "w", "ears")
	bad, long := api.Value{Kind: 9}, strings.Repeat("n", 65)
	refused(t, x, "Signal", func() api.Errno { return x.Signal("v", long, bad) }, api.ErrMissing)
	refused(t, x, "Cancel", func() api.Errno { return x.Cancel("") }, api.ErrMissing)
	refused(t, x, "Terminate", func() api.Errno { return x.Terminate("W", long) }, api.ErrMissing)
	refused(t, x, "Signal", func() api.Errno { return x.Signal("w", long, bad) }, api.ErrLong)
	refused(t, x, "Signal", func() api.Errno { return x.Signal("w", "go", bad) }, api.ErrKind)
	refused(t, x, "Terminate", func() api.Errno { return x.Terminate("w", long) }, api.ErrLong)
	for range 256 {
		want(t, "Signal", x.Signal("w", "go", api.Value{}), api.OK)
	}
	refused(t, x, "Signal", func() api.Errno { return x.Signal("w", "go", api.Value{}) }, api.ErrFull)
	want(t, "Terminate", x.Terminate("w", long[1:]), api.OK)
	refused(t, x, "Signal", func() api.Errno { return x.Signal("w", "go", api.Value{}) }, api.ErrClosed)
	refused(t, x, "Cancel", func() api.Errno { return x.Cancel("w") }, api.ErrClosed)
	refused(t, x, "Terminate", func() api.Errno { return x.Terminate("w", "") }, api.ErrClosed)
	x.Forget(1)
	refused(t, x, "Cancel", func() api.Errno { return x.Cancel("w") }, api.ErrMissing)
}

// P25.3: a server that is opened at an earlier tick than its histories' takes nothing for them that comes from outside.
func TestEarlier(t *testing.T) {
	d := newDisk(t, 300)
	starts(t, open(t, d, all(t), 9), "w", "ears")
	x := open(t, d, all(t), 8)
	refused(t, x, "Signal", func() api.Errno { return x.Signal("w", "go", api.Value{}) }, api.ErrRange)
	does(t, x, 1)
	ticks(t, x, 1)
	want(t, "Signal", x.Signal("w", "go", api.Value{}), api.OK)
}

// P25.3: Query, also of a run that is over, and of one without a program.
func TestQuery(t *testing.T) {
	d := newDisk(t, 300)
	x := open(t, d, all(t), 2)
	starts(t, x, "w", "sleep")
	wantQuery := func(name string, a worker.Answer, code api.Errno) {
		t.Helper()
		p := pictureOf(x)
		got, e := x.Query(name)
		want(t, "Query", e, code)
		if got != a {
			t.Fatalf("Query: %+v, want %+v", got, a)
		}
		p.same(t, x)
	}
	wantQuery("w", worker.Answer{Waits: machine.ForTimer, ID: 1, Made: 1}, api.OK)
	wantQuery("v", worker.Answer{}, api.ErrMissing)
	does(t, x, 1)
	ticks(t, x, 5)
	wantQuery("w", worker.Answer{Waits: machine.Over, Made: 2}, api.OK)
	does(t, x, 1)
	wantQuery("w", worker.Answer{Waits: machine.Over, Made: 2}, api.OK)
	starts(t, x, "w", "ears")
	wantQuery("w", worker.Answer{Waits: machine.ForSignal, Name: "go"}, api.OK)
	x = open(t, d, programs(t, "sleep", sleep, "ears", quick), 9)
	wantQuery("w", worker.Answer{Waits: machine.Over, Made: 1}, api.OK)
	starts(t, x, "v", "sleep")
	does(t, x, 1)
	does(t, x, 1)
	x = open(t, d, programs(t, "ears", quick, "sleep", "push 6; timer; wait; return"), 9)
	wantQuery("v", worker.Answer{}, api.ErrOther) // that of layer 15
	x = open(t, d, programs(t, "ears", ears), 9)
	wantQuery("v", worker.Answer{}, api.ErrOther)
	wantQuery("u", worker.Answer{}, api.ErrMissing)
	want(t, "Terminate", x.Terminate("v", ""), api.OK)
	wantQuery("v", worker.Answer{}, api.ErrOther)
}

// P25.3: Forget.
func TestForget(t *testing.T) {
	x := fresh(t, 0)
	starts(t, x, "w", "quick")
	starts(t, x, "v", "quick")
	for _, n := range []int{math.MinInt, -1, 0, 3, math.MaxInt} {
		refused(t, x, "Forget", func() api.Errno { return x.Forget(n) }, api.ErrMissing)
	}
	refused(t, x, "Forget", func() api.Errno { return x.Forget(1) }, api.ErrState)
	does(t, x, 1)
	want(t, "Forget", x.Forget(1), api.OK)
	refused(t, x, "Forget", func() api.Errno { return x.Forget(1) }, api.ErrMissing)
	if x.State(1) != nil || x.Store().Find("w") != 0 || !x.Right() {
		t.Error("it isn't forgotten")
	}
	wantWaiting(t, x, flow(2))
	if n := starts(t, x, "w", "quick"); n != 3 {
		t.Errorf("Start: %d", n)
	}
}

// P25.2: behind a write the tasks wait by their runs' numbers, the workflow's ahead of the activities, as far as there is room.
func TestWake(t *testing.T) {
	d := newDisk(t, 4000)
	p := all(t)
	p.Add(parsed(t, "many", "start:; push 1; push 0; call \"a\"; pop; push 2; push 0; call \"b\"; pop; signal \"go\"; pop; jump start"))
	x := open(t, d, p, 0)
	for i := range 3 {
		starts(t, x, "w"+strconv.Itoa(i), "many")
	}
	does(t, x, 1)
	does(t, x, 1)
	want(t, "Signal", x.Signal("w0", "go", api.Value{}), api.OK)
	want(t, "Signal", x.Signal("w1", "go", api.Value{}), api.OK)
	wantWaiting(t, x, flow(3), activity(1, 1), activity(1, 2), activity(2, 1), activity(2, 2), flow(1), flow(2))
	wantWhere(t, x, flow(2), 1)
	x = open(t, d, p, 0)
	wantWaiting(t, x, flow(1), activity(1, 1), activity(1, 2), flow(2), activity(2, 1), activity(2, 2), flow(3))
	for i := range 130 {
		starts(t, x, "v"+strconv.Itoa(i), "ears")
	}
	if list := x.Match().Waiting(); len(list) != 128 || list[127] != flow(3+121) {
		t.Errorf("%d tasks wait, the last one %v", len(list), list[len(list)-1])
	}
	takes(t, x, 1) // nothing is written
	if list := x.Match().Waiting(); len(list) != 127 {
		t.Errorf("%d tasks wait", len(list))
	}
	polls(t, x, 1) // there is room for two of them now
	if list := x.Match().Waiting(); len(list) != 128 || list[127] != flow(3+123) {
		t.Errorf("%d tasks wait, the last one %v", len(list), list[len(list)-1])
	}
}

// P25.2: when a run is over none of its tasks waits or is had any more.
func TestOver(t *testing.T) {
	for _, how := range []string{"terminate", "time out", "complete"} {
		p := all(t)
		p.Add(parsed(t, "two", "push 1; push 0; call \"a\"; pop; push 2; push 0; call \"b\"; pop; signal \"go\"; return"))
		x := open(t, newDisk(t, 500), p, 0)
		n, e := x.Start("w", "two", api.Value{}, 9, "")
		want(t, "Start", e, api.OK)
		starts(t, x, "v", "ears")
		does(t, x, 1)
		does(t, x, 2)
		c := takes(t, x, 3)
		want(t, "Signal", x.Signal("v", "go", api.Value{}), api.OK)
		want(t, "Signal", x.Signal("w", "go", api.Value{}), api.OK)
		wantWaiting(t, x, activity(n, 2), flow(n), flow(2))
		task := polls(t, x, 1)
		switch how {
		case "terminate":
			want(t, "Terminate", x.Terminate("w", ""), api.OK)
			refused(t, x, "Complete", func() api.Errno { return x.Complete(task.Token, false) }, api.ErrToken)
		case "time out":
			ticks(t, x, 9)
			wantEvents(t, x, n, 10, `10 @9 run-timed-out`)
			refused(t, x, "Fail", func() api.Errno { return x.Fail(task.Token, "") }, api.ErrToken)
		case "complete":
			want(t, "Complete", x.Complete(task.Token, false, api.Command{Kind: api.Complete}), api.OK)
		}
		refused(t, x, "CompleteCall", func() api.Errno { return x.CompleteCall(c.Token, api.Value{}) }, api.ErrToken)
		if len(x.Match().Leases()) != 0 || len(x.minds) != 1 || len(x.tries) != 0 || x.Timers().Len() != 0 {
			t.Errorf("%s: %v, %v, %v", how, x.Match().Leases(), x.minds, x.tries)
		}
		for _, left := range x.Match().Waiting() {
			if left != flow(2) {
				t.Errorf("%s: %v waits", how, left)
			}
		}
	}
}

// P25.2: of the timers of all runs so many are kept as layer 16 has room for; what would be beyond that isn't written.
func TestTimersFull(t *testing.T) {
	x := open(t, newDisk(t, 4096), all(t), 0)
	commands := func(from, to int64) []api.Command {
		var list []api.Command
		for id := from; id < to; id++ {
			list = append(list, api.Command{Kind: api.StartTimer, A: id, B: 1 << 20})
		}
		return list
	}
	for i := range 64 { // each has a deadline, too, and a worker of its own
		_, e := x.Start("w"+strconv.Itoa(i), "ears", api.Value{}, 1<<20, "")
		want(t, "Start", e, api.OK)
		task := polls(t, x, i+1)
		want(t, "Complete", x.Complete(task.Token, true, commands(1, 129)...), api.OK)
		task = polls(t, x, i+1)
		want(t, "Complete", x.Complete(task.Token, true, commands(129, 255)...), api.OK)
	}
	if x.Timers().Len() != 64*255 {
		t.Fatalf("%d are due", x.Timers().Len())
	}
	for i := range 63 {
		task := polls(t, x, i+1)
		want(t, "Complete", x.Complete(task.Token, true, commands(255, 256)...), api.OK)
	}
	task := polls(t, x, 64)
	refused(t, x, "Complete", func() api.Errno { return x.Complete(task.Token, true, commands(255, 257)...) }, api.ErrFull)
	want(t, "Complete", x.Complete(task.Token, true, commands(255, 256)...), api.OK)
	if x.Timers().Len() != 16384 {
		t.Fatalf("%d are due", x.Timers().Len())
	}
	wantStart(t, x, "v", "ears", api.Value{}, 1, "", api.ErrFull)
	starts(t, x, "u", "ears")
	task = polls(t, x, 64)
	refused(t, x, "Complete", func() api.Errno { return x.Complete(task.Token, true, commands(256, 257)...) }, api.ErrFull)
	list := append([]api.Command{{Kind: api.CancelTimer, A: 1}}, commands(256, 257)...)
	want(t, "Complete", x.Complete(task.Token, true, list...), api.OK)
	task = polls(t, x, 64)
	want(t, "Complete", x.Complete(task.Token, true, api.Command{Kind: api.Again}), api.OK)
	if x.Timers().Len() != 16384-255 || !x.Right() {
		t.Fatalf("%d are due", x.Timers().Len())
	}
	task = polls(t, x, 64) // the next run fills what is left, and goes on
	want(t, "Complete", x.Complete(task.Token, true, commands(1, 129)...), api.OK)
	task = polls(t, x, 64)
	want(t, "Complete", x.Complete(task.Token, true, commands(129, 256)...), api.OK)
	if x.Timers().Len() != 16384 {
		t.Fatalf("%d are due", x.Timers().Len())
	}
	task = polls(t, x, 64)
	want(t, "Complete", x.Complete(task.Token, true, api.Command{Kind: api.Again}), api.OK)
	ticks(t, x, 1)
	starts(t, x, "v", "on")
	if !x.Right() {
		t.Error("not right")
	}
}

// P25.2: the power goes: the call answers that, and then all that write, poll, lose or tick do. The server that is opened anew goes on.
func TestDown(t *testing.T) {
	d := newDisk(t, 500)
	x := open(t, d, all(t), 0)
	starts(t, x, "w", "pay")
	does(t, x, 1)
	call := takes(t, x, 1)
	want(t, "Signal", x.Signal("w", "go", api.Value{}), api.OK)
	task := polls(t, x, 1)
	starts(t, x, "v", "ears")
	d.Fuse(0)
	a, _ := x.Query("w")
	refused(t, x, "Cancel", func() api.Errno { return x.Cancel("w") }, api.ErrDown)
	d.Up()
	for what, f := range map[string]func() api.Errno{
		"Start":        func() api.Errno { _, e := x.Start("u", "ears", api.Value{}, 0, ""); return e },
		"Signal":       func() api.Errno { return x.Signal("w", "go", api.Value{}) },
		"Cancel":       func() api.Errno { return x.Cancel("w") },
		"Terminate":    func() api.Errno { return x.Terminate("w", "") },
		"Forget":       func() api.Errno { return x.Forget(1) },
		"Poll":         func() api.Errno { _, e := x.Poll(1); return e },
		"Poll of 9":    func() api.Errno { _, e := x.Poll(9); return e },
		"Complete":     func() api.Errno { return x.Complete(task.Token, false) },
		"Fail":         func() api.Errno { return x.Fail(task.Token, "") },
		"PollCall":     func() api.Errno { _, e := x.PollCall(1); return e },
		"CompleteCall": func() api.Errno { return x.CompleteCall(call.Token, api.Value{}) },
		"FailCall":     func() api.Errno { return x.FailCall(call.Token, "") },
		"Lose":         func() api.Errno { return x.Lose(1) },
		"Lose of 9":    func() api.Errno { return x.Lose(9) },
		"Tick":         func() api.Errno { return x.Tick(1) },
		"Tick of 0":    func() api.Errno { return x.Tick(0) },
		"no program":   func() api.Errno { _, e := x.Start("u", "", api.Value{}, 0, ""); return e },
		"no workflow":  func() api.Errno { return x.Signal("u", "", api.Value{}) },
		"no run":       func() api.Errno { return x.Forget(9) },
		"no worker":    func() api.Errno { _, e := x.Poll(0); return e },
		"no task":      func() api.Errno { return x.Complete(9, false) },
		"no task, too": func() api.Errno { return x.Fail(9, "") },
		"no call":      func() api.Errno { return x.CompleteCall(9, api.Value{}) },
		"no call, too": func() api.Errno { return x.FailCall(9, "") },
		"no tick":      func() api.Errno { return x.Tick(-1) },
	} {
		refused(t, x, what, f, api.ErrDown)
	}
	if b, e := x.Query("w"); e != api.OK || a != b {
		t.Errorf("Query: %+v, %v", b, e)
	}
	x = open(t, d, all(t), 0)
	want(t, "Cancel", x.Cancel("w"), api.OK)
}

// P2: what is handed in is neither changed nor kept, and what is answered is the caller's own.
func TestMemory(t *testing.T) {
	v := func() api.Value { return value.List(value.Text("a"), value.List(value.Of(1))) }
	x := fresh(t, 0)
	input, sent, result, wanted := v(), v(), v(), v()
	spoil := func(w api.Value) {
		t.Helper()
		if !reflect.DeepEqual(w, v()) {
			t.Error("what is handed in was changed")
		}
		w.List[1].List[0] = value.Of(9)
		w.List[0] = value.Of(9)
	}
	_, e := x.Start("w", "pay", input, 0, "")
	want(t, "Start", e, api.OK)
	spoil(input)
	want(t, "Signal", x.Signal("w", "go", sent), api.OK)
	spoil(sent)
	state := string(x.Store().State())
	task := polls(t, x, 1)
	if !reflect.DeepEqual(task.Job.Events[0].Value, v()) || !reflect.DeepEqual(task.Job.Events[2].Value, v()) {
		t.Errorf("what was handed in was kept: %+v", task.Job.Events)
	}
	spoil(task.Job.Events[0].Value)
	task.Job.Image.Code[0].Op = 77
	task.Job.Events[1] = api.Event{}
	want(t, "Fail", x.Fail(task.Token, ""), api.OK)
	task = polls(t, x, 1)
	if !reflect.DeepEqual(task.Job.Events[0].Value, v()) || task.Job.Events[1].Kind != api.TaskScheduled || task.Job.Image.Code[0].Op == 77 {
		t.Errorf("what was answered is kept: %+v", task.Job)
	}
	list := []api.Command{{Kind: api.Schedule, A: 1, Name: "pay", Value: wanted}}
	was := slices.Clone(list)
	want(t, "Complete", x.Complete(task.Token, false, list...), api.OK)
	if !reflect.DeepEqual(list, was) {
		t.Error("Complete changes its commands")
	}
	spoil(wanted)
	c := takes(t, x, 1)
	spoil(c.Input)
	if a, _ := x.State(1).Activity(1); !reflect.DeepEqual(a.Input, v()) {
		t.Errorf("an activity's input: %v", a.Input)
	}
	want(t, "CompleteCall", x.CompleteCall(c.Token, result), api.OK)
	spoil(result)
	if e := x.Store().All(1)[9]; e.Kind != api.ActivityCompleted || !reflect.DeepEqual(e.Value, v()) {
		t.Errorf("a result: %v", e)
	}
	if state == string(x.Store().State()) || !x.Right() {
		t.Error("not right")
	}
	p := all(t)
	names := len(p)
	open(t, newDisk(t, 100), p, 0)
	if len(p) != names {
		t.Error("Open changes its programs")
	}
}

// P1: arguments of any kind, of a server with something, and of one with nothing.
func TestRaw(t *testing.T) {
	numbers := []int{math.MinInt, -1, 0, 1, 2, 64, 65, 1 << 20, 1<<20 + 1, math.MaxInt}
	round := []api.Value{{Kind: api.List}}
	round[0].List = round
	values := []api.Value{{}, round[0], {Kind: -1}, {Kind: 99, List: round}}
	texts := []string{"", "w", "\xff", strings.Repeat("x", 1000)}
	for _, some := range []bool{false, true} {
		x := fresh(t, 0)
		if some {
			starts(t, x, "w", "pay")
			starts(t, x, "v", "ears")
			does(t, x, 1)
			polls(t, x, 1)
		}
		for _, n := range numbers {
			for i, s := range texts {
				v := values[i%len(values)]
				x.Start(s, s, v, int64(n), s)
				x.Start(s, "ears", v, int64(n), s)
				x.Signal(s, s, v)
				x.Cancel(s)
				x.Query(s)
				x.Fail(uint64(n), s)
				x.FailCall(uint64(n), s)
				x.CompleteCall(uint64(n), v)
				x.Complete(uint64(n), i > 1, api.Command{Kind: n, A: int64(n), B: int64(n), Value: v})
			}
			x.Forget(n)
			x.State(n)
			x.Poll(n)
			x.PollCall(n)
			x.Lose(n)
			x.Tick(n)
			x.Due()
			Wants(Task{Token: uint64(n), Job: worker.Job{Run: n, Events: []api.Event{{ID: n}}}})
			if !x.Right() {
				t.Fatal("not right")
			}
		}
	}
}
