package engine

import (
	"math"
	"strconv"
	"testing"

	"foliot/api"
	"foliot/event"
	"foliot/policy"
	"foliot/run"
	"foliot/value"
)

// P25.7: the ticks that may pass.
func TestTickRange(t *testing.T) {
	x := fresh(t, 0)
	for _, n := range []int{math.MinInt, -1, 1<<20 + 1, math.MaxInt} {
		refused(t, x, "Tick", func() api.Errno { return x.Tick(n) }, api.ErrRange)
	}
	ticks(t, x, 0)
	ticks(t, x, 1<<20)
	ticks(t, x, 1<<20)
	x = fresh(t, event.MaxTime-5)
	refused(t, x, "Tick", func() api.Errno { return x.Tick(6) }, api.ErrRange)
	ticks(t, x, 5)
	refused(t, x, "Tick", func() api.Errno { return x.Tick(1) }, api.ErrRange)
	ticks(t, x, 0)
	starts(t, x, "w", "sleep")
	does(t, x, 1)
	ticks(t, x, 0)
	wantEvents(t, x, 1, 5, `5 @4611686018427387903 timer-started 1 4611686018427387903`, `6 @4611686018427387903 timer-fired 1`, `7 @4611686018427387903 task-scheduled 1`)
}

// P25.7: timers fire and runs time out in layer 17's order, at the tick that it is then.
func TestFires(t *testing.T) {
	x := fresh(t, 0)
	for i, n := range []int64{9, 0, 5, 4} {
		_, e := x.Start("w"+strconv.Itoa(i), "sleep", api.Value{}, n, "")
		want(t, "Start", e, api.OK)
	}
	for range 4 {
		does(t, x, 1)
	}
	ticks(t, x, 3)
	wantDue(t, x, 4, true)
	ticks(t, x, 5)
	wantEvents(t, x, 1, 6, `6 @8 timer-fired 1`, `7 @8 task-scheduled 1`)
	wantEvents(t, x, 2, 6, `6 @8 timer-fired 1`, `7 @8 task-scheduled 1`)
	wantEvents(t, x, 3, 6, `6 @8 timer-fired 1`, `7 @8 task-scheduled 1`, `8 @8 run-timed-out`)
	wantEvents(t, x, 4, 6, `6 @8 run-timed-out`)
	wantWaiting(t, x, flow(1), flow(2))
	wantDue(t, x, 9, true)
	ticks(t, x, 1)
	wantEvents(t, x, 1, 8, `8 @9 run-timed-out`)
	wantDue(t, x, 0, false)
}

// P25.7: a timer fires once, also while its run's task is had; the task sees it when it is completed.
func TestFireWhileHad(t *testing.T) {
	x := fresh(t, 0)
	starts(t, x, "w", "sleep")
	does(t, x, 1)
	want(t, "Signal", x.Signal("w", "go", api.Value{}), api.OK)
	task := polls(t, x, 1)
	ticks(t, x, 5)
	ticks(t, x, 1)
	wantEvents(t, x, 1, 8, `8 @0 task-started 1 1`, `9 @5 timer-fired 1`)
	want(t, "Complete", x.Complete(task.Token, false), api.OK)
	wantEvents(t, x, 1, 10, `10 @5 task-completed 0 0`, `11 @5 task-scheduled 1`)
}

// P25.7: a worker is lost: its workflow tasks are tried again, by anybody; what waited for it waits for anybody.
func TestLose(t *testing.T) {
	x := fresh(t, 0)
	for i := range 4 {
		starts(t, x, "w"+strconv.Itoa(i), "ears")
		does(t, x, 1+i/3)
	}
	for i := range 4 {
		want(t, "Signal", x.Signal("w"+strconv.Itoa(i), "go", api.Value{}), api.OK)
	}
	polls(t, x, 1)
	polls(t, x, 1)
	polls(t, x, 2)
	wantWhere(t, x, flow(3), 1)
	want(t, "Lose", x.Lose(1), api.OK)
	wantEvents(t, x, 1, 7, `7 @0 task-started 1 1`, `8 @0 task-timed-out 1`, `9 @0 task-scheduled 2`)
	wantEvents(t, x, 2, 7, `7 @0 task-started 1 1`, `8 @0 task-timed-out 1`, `9 @0 task-scheduled 2`)
	wantEvents(t, x, 4, 7, `7 @0 task-started 2 1`)
	wantWaiting(t, x, flow(3), flow(1), flow(2))
	for n := range 3 {
		wantWhere(t, x, flow(n+1), 0)
	}
	if l := x.Match().Leases(); len(l) != 1 || l[0].Worker != 2 {
		t.Errorf("Leases: %v", l)
	}
	does(t, x, 3)
	for _, id := range []int{0, -1, 65, 64, 1, math.MinInt, math.MaxInt} {
		p := pictureOf(x)
		want(t, "Lose", x.Lose(id), api.OK)
		p.same(t, x)
	}
	want(t, "Signal", x.Signal("w2", "go", api.Value{}), api.OK)
	wantWhere(t, x, flow(3), 3)
}

// P25.7: a worker that is lost has no run in mind any more, whatever it had.
func TestLoseMind(t *testing.T) {
	x := fresh(t, 0)
	starts(t, x, "w", "ears")
	starts(t, x, "v", "ears")
	does(t, x, 1)
	does(t, x, 2)
	want(t, "Lose", x.Lose(1), api.OK)
	want(t, "Signal", x.Signal("w", "go", api.Value{}), api.OK)
	want(t, "Signal", x.Signal("v", "go", api.Value{}), api.OK)
	wantWhere(t, x, flow(1), 0)
	wantWhere(t, x, flow(2), 2)
}

// P25.7: the tries of a worker that is lost are lost: the activity is tried again, or is over.
func TestLoseCalls(t *testing.T) {
	x := prepared(t, policy.Policy{Tries: 2, First: 4, Factor: 1})
	if c := takes(t, x, 9); c.Try != 1 {
		t.Errorf("PollCall: %+v", c)
	}
	ticks(t, x, 1)
	want(t, "Lose", x.Lose(8), api.OK)
	want(t, "Lose", x.Lose(9), api.OK)
	wantWaiting(t, x)
	wantDue(t, x, 7, true)
	ticks(t, x, 4)
	c := takes(t, x, 9)
	want(t, "Lose", x.Lose(9), api.OK)
	wantEvents(t, x, 1, 6, `6 @7 activity-timed-out 1`, `7 @7 task-scheduled 1`)
	refused(t, x, "CompleteCall", func() api.Errno { return x.CompleteCall(c.Token, api.Value{}) }, api.ErrToken)
	if len(x.tries) != 0 || c.Try != 2 {
		t.Errorf("%v is kept", x.tries)
	}
	does(t, x, 1)
	wantEvents(t, x, 1, 10, `10 @7 run-completed [nil -1]`)
}

// P25.7: a worker is lost, and there is no room to write it: ErrFull. A later Tick does it.
func TestLoseWithoutRoom(t *testing.T) {
	x := open(t, newDisk(t, 34), programs(t, "p", calls(t, once), "ears", ears), 0)
	starts(t, x, "w", "p")
	does(t, x, 1)
	starts(t, x, "v", "ears")
	c := takes(t, x, 9)
	polls(t, x, 9)
	fill(t, x, "w")
	state := string(x.Store().State())
	want(t, "Lose", x.Lose(9), api.ErrFull)
	if string(x.Store().State()) != state || len(x.Match().Leases()) != 0 || !x.Right() {
		t.Error("Lose writes")
	}
	wantWaiting(t, x, flow(1))
	for range 2 {
		want(t, "Tick", x.Tick(1), api.ErrFull)
		wantWaiting(t, x, flow(1))
	}
	if x.Now() != 2 {
		t.Errorf("Now: %d", x.Now())
	}
	want(t, "CompleteCall", x.CompleteCall(c.Token, api.Value{}), api.ErrToken)
}

// P25.2 and P25.7: what couldn't be written, as a worker was lost, is written by a later Tick, unless somebody tries it once more ahead of that.
func TestLoseLater(t *testing.T) {
	for _, poll := range []bool{false, true} {
		d := newDisk(t, 300)
		p := programs(t, "p", calls(t, once), "ears", ears)
		x := open(t, d, p, 9)
		starts(t, x, "w", "p")
		does(t, x, 1)
		x = open(t, d, p, 7) // at an earlier tick than that of which the history tells
		takes(t, x, 9)
		state := string(x.Store().State())
		want(t, "Lose", x.Lose(9), api.OK) // an ErrRange isn't answered
		want(t, "Tick", x.Tick(1), api.ErrRange)
		if string(x.Store().State()) != state || len(x.Match().Leases()) != 0 {
			t.Error("Lose writes")
		}
		wantWaiting(t, x)
		starts(t, x, "v", "ears")
		wantWaiting(t, x, activity(1, 1), flow(2))
		if poll {
			if c := takes(t, x, 9); c.Try != 2 {
				t.Errorf("PollCall: %+v", c)
			}
			ticks(t, x, 1)
			wantWaiting(t, x, flow(2))
			if len(x.Match().Leases()) != 1 {
				t.Error("it is lost once more")
			}
			continue
		}
		ticks(t, x, 1)
		wantEvents(t, x, 1, 6, `6 @9 activity-timed-out 1`, `7 @9 task-scheduled 1`)
		wantWaiting(t, x, flow(2), flow(1))
		ticks(t, x, 1)
	}
}

// P25.7: so, too, of what Expire tells.
func TestExpireLater(t *testing.T) {
	d := newDisk(t, 300)
	p := programs(t, "p", calls(t, once))
	x := open(t, d, p, 40)
	starts(t, x, "w", "p")
	does(t, x, 1)
	x = open(t, d, p, 7)
	takes(t, x, 9)
	want(t, "Tick", x.Tick(20), api.ErrRange)
	want(t, "Tick", x.Tick(12), api.ErrRange)
	if l := x.Match().Leases(); len(l) != 0 {
		t.Errorf("Leases: %v", l)
	}
	ticks(t, x, 1)
	wantEvents(t, x, 1, 6, `6 @40 activity-timed-out 1`, `7 @40 task-scheduled 1`)
}

// P25.7: the power goes as a worker is lost, and in a Tick.
func TestLoseDown(t *testing.T) {
	for _, lose := range []bool{true, false} {
		d := newDisk(t, 500)
		x := open(t, d, all(t), 0)
		starts(t, x, "w", "ears")
		starts(t, x, "v", "ears")
		polls(t, x, 1)
		polls(t, x, 1)
		d.Fuse(1)
		if lose {
			want(t, "Lose", x.Lose(1), api.ErrDown)
		} else {
			want(t, "Tick", x.Tick(30), api.ErrDown)
		}
		d.Up()
		refused(t, x, "Lose", func() api.Errno { return x.Lose(1) }, api.ErrDown)
		x = open(t, d, all(t), 30)
		ticks(t, x, 0)
		wantEvents(t, x, 1, 3, `3 @0 task-started 1 1`, `4 @0 task-timed-out 1`, `5 @0 task-scheduled 2`)
		wantEvents(t, x, 2, 3, `3 @0 task-started 1 1`, `4 @0 task-timed-out 1`, `5 @0 task-scheduled 2`)
	}
}

// P25.7: a try that takes longer than its policy says is lost, also if it isn't had for long.
func TestLimit(t *testing.T) {
	x := prepared(t, policy.Policy{Tries: 2, First: 1, Factor: 1, Limit: 7})
	ticks(t, x, 3)
	takes(t, x, 9)
	ticks(t, x, 6)
	if l := x.Match().Leases(); len(l) != 1 {
		t.Errorf("Leases: %v", l)
	}
	ticks(t, x, 1)
	if l := x.Match().Leases(); len(l) != 0 {
		t.Errorf("Leases: %v", l)
	}
	wantDue(t, x, 13, true)
	ticks(t, x, 1)
	c := takes(t, x, 9)
	ticks(t, x, 9)
	wantEvents(t, x, 1, 6, `6 @22 activity-timed-out 1`, `7 @22 task-scheduled 1`)
	refused(t, x, "FailCall", func() api.Errno { return x.FailCall(c.Token, "") }, api.ErrToken)
}

// P25.7: a try that is had for too long is lost, whatever its policy says.
func TestExpire(t *testing.T) {
	for _, limit := range []int64{0, 21, 200} {
		x := prepared(t, policy.Policy{Tries: 2, First: 3, Factor: 1, Limit: limit})
		takes(t, x, 9)
		ticks(t, x, 19)
		if l := x.Match().Leases(); len(l) != 1 {
			t.Errorf("Leases: %v", l)
		}
		ticks(t, x, 1)
		if l := x.Match().Leases(); len(l) != 0 {
			t.Errorf("Leases: %v", l)
		}
		wantDue(t, x, 25, true)
		ticks(t, x, 3)
		takes(t, x, 9)
		ticks(t, x, 20)
		wantEvents(t, x, 1, 6, `6 @45 activity-timed-out 1`, `7 @45 task-scheduled 1`)
	}
}

// P25.7: in one Tick timers fire ahead of what is lost, that ahead of what waits again, and of what begins again.
func TestOrder(t *testing.T) {
	p := all(t)
	p.Add(parsed(t, "c", calls(t, policy.Policy{Tries: 2, First: 0, Factor: 1})))
	p.Add(parsed(t, "o", calls(t, once)))
	x := open(t, newDisk(t, 900), p, 0)
	starts(t, x, "sleep", "sleep") // 1: its timer fires
	starts(t, x, "try", "c")       // 2: a try is lost, and it is tried again at once
	starts(t, x, "once", "o")      // 3: a try is lost, and it is over
	starts(t, x, "task", "ears")   // 4: its task is lost
	starts(t, x, "wait", "ears")   // 5: its task waits too long for its worker
	_, e := x.Start("cron", "quick", api.Value{}, 0, "* * * * *")
	want(t, "Start", e, api.OK) // 6: it begins again
	for id := range 6 {
		does(t, x, id+1)
	}
	takes(t, x, 9)
	takes(t, x, 9)
	want(t, "Signal", x.Signal("task", "go", api.Value{}), api.OK)
	polls(t, x, 4)
	want(t, "Signal", x.Signal("wait", "go", api.Value{}), api.OK)
	want(t, "Lose", x.Lose(3), api.OK)
	want(t, "Lose", x.Lose(4), api.OK)
	polls(t, x, 4)
	want(t, "Lose", x.Lose(1), api.OK)
	ticks(t, x, 20)
	wantEvents(t, x, 1, 6, `6 @20 timer-fired 1`, `7 @20 task-scheduled 1`)
	wantEvents(t, x, 3, 6, `6 @20 activity-timed-out 1`, `7 @20 task-scheduled 1`)
	wantEvents(t, x, 4, 11, `11 @0 task-timed-out 2`, `12 @0 task-scheduled 3`)
	wantEvents(t, x, 7, 1, `1 @20 run-started 0 6 "quick" "* * * * *" nil`, `2 @20 task-scheduled 1`)
	wantWaiting(t, x, flow(1), flow(5), flow(3), activity(2, 1), flow(7), flow(4))
	wantWhere(t, x, flow(4), 4)
}

// P25.7: workflow tasks that were started, and that nobody has, as the server was opened anew, are lost at the next Tick.
func TestFindLost(t *testing.T) {
	d := newDisk(t, 500)
	x := open(t, d, all(t), 0)
	for i := range 3 {
		starts(t, x, "w"+strconv.Itoa(i), "ears")
		polls(t, x, 1)
	}
	x = open(t, d, all(t), 4)
	wantWaiting(t, x)
	_, e := x.Poll(1)
	want(t, "Poll", e, api.ErrMissing)
	want(t, "Terminate", x.Terminate("w1", ""), api.OK)
	ticks(t, x, 0)
	wantEvents(t, x, 1, 3, `3 @0 task-started 1 1`, `4 @0 task-timed-out 1`, `5 @0 task-scheduled 2`)
	wantEvents(t, x, 2, 3, `3 @0 task-started 1 1`, `4 @4 run-terminated ""`)
	wantWaiting(t, x, flow(1), flow(3))
	polls(t, x, 1)
	ticks(t, x, 0)
	if !x.isTask(1, run.Started) {
		t.Error("a task that somebody has is lost")
	}
}

// P25.7: the first error is answered; the tick is the later one, and what isn't done is done by a later Tick.
func TestTickErrors(t *testing.T) {
	x := open(t, newDisk(t, 34), all(t), 0)
	starts(t, x, "w", "sleep")
	starts(t, x, "v", "ears")
	_, e := x.Start("u", "quick", api.Value{}, 0, "* * * * *")
	want(t, "Start", e, api.OK)
	for range 3 {
		does(t, x, 1)
	}
	fill(t, x, "v")
	state := string(x.Store().State())
	want(t, "Tick", x.Tick(30), api.ErrFull)
	want(t, "Tick", x.Tick(1<<20), api.ErrFull)
	if x.Now() != 1<<20+30 || string(x.Store().State()) != state || !x.Right() {
		t.Errorf("Now: %d", x.Now())
	}
	wantDue(t, x, 1, true)
}

// P25.7: so, too, if a server was opened at an earlier tick than that of which a history tells.
func TestTickEarlier(t *testing.T) {
	d := newDisk(t, 300)
	x := open(t, d, all(t), 0)
	starts(t, x, "w", "sleep")
	does(t, x, 1)
	ticks(t, x, 9)
	d = newDisk(t, 300)
	x = open(t, d, all(t), 0)
	starts(t, x, "w", "sleep")
	starts(t, x, "v", "ears")
	does(t, x, 1)
	x.now = 9
	want(t, "Signal", x.Signal("w", "go", api.Value{}), api.OK)
	x = open(t, d, all(t), 7)
	want(t, "Tick", x.Tick(1), api.ErrRange)
	if x.Now() != 8 {
		t.Errorf("Now: %d", x.Now())
	}
	ticks(t, x, 1)
	wantEvents(t, x, 1, 8, `8 @9 timer-fired 1`)
}

// P25.8: a workflow begins again at the first Tick that isn't ahead of its time, again and again.
func TestCron(t *testing.T) {
	x := fresh(t, 2)
	_, e := x.Start("w", "sleep", value.Of(4), 500, "*/30 * * * *")
	want(t, "Start", e, api.OK)
	wantDue(t, x, 502, true)
	does(t, x, 1)
	ticks(t, x, 5) // at 7 the timer fires
	does(t, x, 1)
	wantEvents(t, x, 1, 10, `10 @7 run-completed 7`)
	wantDue(t, x, 30, true)
	ticks(t, x, 22)
	if x.Store().Next() != 2 {
		t.Error("too early")
	}
	ticks(t, x, 1)
	wantEvents(t, x, 2, 1, `1 @30 run-started 500 1 "sleep" "*/30 * * * *" 4`, `2 @30 task-scheduled 1`)
	wantDue(t, x, 530, true)
	wantWaiting(t, x, flow(2))
	want(t, "Signal", x.Signal("w", "go", api.Value{}), api.OK)
	ticks(t, x, 600)
	wantEvents(t, x, 2, 3, `3 @30 signal-received "go" nil`, `4 @630 run-timed-out`)
	wantDue(t, x, 660, true)
	ticks(t, x, 100)
	wantEvents(t, x, 3, 1, `1 @730 run-started 500 2 "sleep" "*/30 * * * *" 4`, `2 @730 task-scheduled 1`)
	if info, _ := x.Store().Info(3); info.Place != 3 || info.Name != "w" {
		t.Errorf("Info: %+v", info)
	}
}

// P25.8: how a run must be over for its workflow to begin again.
func TestCronEnds(t *testing.T) {
	for _, c := range []struct {
		program string
		end     func(x *Engine) api.Errno
		again   bool
	}{
		{"quick", nil, true},
		{"fails", nil, true},
		{"on", func(x *Engine) api.Errno { return x.Tick(9) }, true}, // it times out
		{"on", func(x *Engine) api.Errno { return x.Terminate("w", "") }, false},
		{"on", func(x *Engine) api.Errno { return x.Cancel("w") }, false}, // it isn't over
	} {
		x := fresh(t, 0)
		_, e := x.Start("w", c.program, api.Value{}, 9, "* * * * *")
		want(t, "Start", e, api.OK)
		does(t, x, 1)
		if c.end != nil {
			want(t, "the end", c.end(x), api.OK)
		}
		x.Tick(1)
		if c.again != (x.Store().Find("w") == 2) {
			t.Errorf("%s: again: %v", c.program, !c.again)
		}
	}
}

// P25.8: a run that ends as canceled or continued doesn't begin again by that, nor one without a text.
func TestCronNot(t *testing.T) {
	x := fresh(t, 0)
	_, e := x.Start("w", "on", api.Value{}, 0, "* * * * *")
	want(t, "Start", e, api.OK)
	starts(t, x, "v", "quick")
	task := polls(t, x, 1)
	want(t, "Complete", x.Complete(task.Token, false, api.Command{Kind: api.Again}), api.OK)
	does(t, x, 1)
	wantDue(t, x, 0, false)
	ticks(t, x, 1000)
	if x.Store().Next() != 4 {
		t.Errorf("%d is next", x.Store().Next())
	}
	want(t, "Terminate", x.Terminate("w", ""), api.OK)
	want(t, "Forget", x.Forget(3), api.OK) // that which was continued is the last one now
	ticks(t, x, 1000)
	if x.Store().Next() != 4 || x.Store().Find("w") != 1 {
		t.Errorf("%d is next", x.Store().Next())
	}
	wantDue(t, x, 0, false)
}

// P25.8: only the last run's end counts.
func TestCronLast(t *testing.T) {
	x := fresh(t, 0)
	_, e := x.Start("w", "quick", api.Value{}, 0, "0 * * * *")
	want(t, "Start", e, api.OK)
	does(t, x, 1)
	wantDue(t, x, 60, true)
	starts(t, x, "w", "ears")
	wantDue(t, x, 0, false)
	ticks(t, x, 100)
	want(t, "Terminate", x.Terminate("w", ""), api.OK)
	wantDue(t, x, 0, false)
	want(t, "Forget", x.Forget(2), api.OK)
	wantDue(t, x, 60, true)
	ticks(t, x, 0)
	wantEvents(t, x, 3, 1, `1 @100 run-started 0 1 "quick" "0 * * * *" nil`, `2 @100 task-scheduled 1`)
}

// P25.8: a text whose time never comes, and a time that the calendar doesn't have.
func TestCronNever(t *testing.T) {
	x := fresh(t, 1<<32)
	_, e := x.Start("w", "quick", api.Value{}, 0, "* * * * *")
	want(t, "Start", e, api.OK)
	does(t, x, 1)
	wantDue(t, x, 0, false)
	x = fresh(t, 0)
	_, e = x.Start("w", "quick", api.Value{}, 0, "0 0 30 2 *")
	want(t, "Start", e, api.OK)
	does(t, x, 1)
	wantDue(t, x, 0, false)
	ticks(t, x, 1<<20)
	if x.Store().Next() != 2 {
		t.Error("it begins again")
	}
}

// P25.8: several begin again by their last runs' numbers; so does a server that was opened anew.
func TestCronSeveral(t *testing.T) {
	d := newDisk(t, 500)
	x := open(t, d, all(t), 0)
	for i, name := range []string{"z", "a", "m"} {
		_, e := x.Start(name, "quick", api.Value{}, 0, strconv.Itoa(30-10*i)+" * * * *")
		want(t, "Start", e, api.OK)
		does(t, x, 1)
	}
	x = open(t, d, all(t), 0)
	wantDue(t, x, 10, true)
	ticks(t, x, 25)
	wantDue(t, x, 30, true)
	if x.Store().Find("a") != 4 || x.Store().Find("m") != 5 || x.Store().Find("z") != 1 {
		t.Error("they begin by another order")
	}
}
