package audit

import (
	"math"
	"slices"
	"strings"
	"testing"

	"foliot/api"
	"foliot/cluster"
	"foliot/engine"
	"foliot/value"
)

// wantDrive: what Drive answers, and the tick then.
func wantDrive(t *testing.T, what string, c *cluster.Cluster, most, times int, ended bool, now int64) {
	t.Helper()
	n, ok := Drive(c, value.Text("done"), most)
	if n != times || ok != ended {
		t.Errorf("%s: %d, %v, want %d, %v", what, n, ok, times, ended)
	}
	if got := c.Engine().Now(); got != now {
		t.Errorf("%s: the tick %d, want %d", what, got, now)
	}
}

// P28.3: where there is nothing: the third time ends it; 20 ticks pass in each ahead of it.
func TestDriveNothing(t *testing.T) {
	for most, want := range map[int]struct {
		ended bool
		now   int64
	}{math.MinInt: {false, 0}, -1: {false, 0}, 0: {false, 0}, 1: {false, 20}, 2: {false, 40}} {
		wantDrive(t, "nothing", fresh(t, 1), most, most, want.ended, want.now)
	}
	for _, most := range []int{3, 4, math.MaxInt} {
		wantDrive(t, "nothing", fresh(t, 1), most, 2, true, 40)
	}
	c := fresh(t, 1)
	does(t, c, start("w", "ears"), work(1))
	wantDrive(t, "it waits for a signal", c, 100, 2, true, 40)
	wantDrive(t, "it waits still", c, 100, 2, true, 80)
}

// P28.3: time by time: what is done, then as many ticks as up to what is due.
func TestDriveSleep(t *testing.T) {
	c := fresh(t, 2)
	does(t, c, start("w", "sleep"))
	wantDrive(t, "its task is done", c, 1, 1, false, 0)
	wantSum(t, c, "[1 0 5]")
	wantDrive(t, "nothing is to be done", c, 1, 1, false, 5)
	wantSum(t, c, "[1 0 7]")
	wantDrive(t, "the rest", c, 100, 3, true, 45)
	wantSum(t, c, "[1 1 10]")
	wantDrive(t, "all of it", c, 2, 2, false, 85)

	c = fresh(t, 2)
	does(t, c, start("w", "sleep"))
	wantDrive(t, "at once", c, 100, 5, true, 45)
}

// P28.3: at least one tick, at most 2^20.
func TestDriveTicks(t *testing.T) {
	c := fresh(t, 1)
	does(t, c, start("w", "zero")) // its timer is due at once
	wantDrive(t, "at least one", c, 2, 2, false, 1)
	wantDrive(t, "to its end", c, 100, 3, true, 41)

	c = fresh(t, 1)
	long := start("w", "ears")
	long.N = 5 << 20
	does(t, c, long)
	wantDrive(t, "as long as something is due it doesn't end", c, 100, 8, true, 5<<20+40)

	c = fresh(t, 1)
	s := start("w", "nap")
	s.N = 5 << 19 // it has so much time
	does(t, c, s, work(1))
	wantDrive(t, "the timer", c, 1, 1, false, 1000)
	wantDrive(t, "its task", c, 1, 1, false, 1000)
	wantDrive(t, "at most 2^20", c, 1, 1, false, 1000+1<<20)
	wantDrive(t, "at most 2^20", c, 1, 1, false, 1000+2<<20)
	wantDrive(t, "its end", c, 1, 1, false, 5<<19)
	wantDrive(t, "nothing more", c, 100, 2, true, 5<<19+40)
	if l := lines(c, 1); l[len(l)-1] != "10 @2621440 run-timed-out" {
		t.Errorf("%q", l)
	}
}

// P28.3: each eighth time there is a Tick, whatever was done; and a time in which something was isn't one of the three.
func TestDriveEighth(t *testing.T) {
	for most, now := range map[int]int64{7: 0, 8: 20, 15: 20, 16: 40, 24: 60} {
		c := fresh(t, 1)
		does(t, c, start("w", "on"))
		wantDrive(t, "it goes on and on", c, most, most, false, now)
		if n := len(c.Engine().Store().Runs()); n != most+1 {
			t.Errorf("%d runs", n)
		}
	}
	c := fresh(t, 1)
	does(t, c, start("v", "sleep"), start("w", "on"))
	wantDrive(t, "something is due", c, 8, 8, false, 5)

	// Once there is nothing, then something, at 20; its timer is late then.
	c = fresh(t, 1)
	does(t, c, start("w", "sleep"), cluster.Step{Kind: cluster.Take, Worker: 1}, cluster.Step{Kind: cluster.Drop, Worker: 1})
	wantDrive(t, "who has the task is gone", c, 100, 6, true, 61)
	wantSum(t, c, "[1 1 13]")
}

// P28.3: each worker does what it has, takes what there is, and does that: a task, and two activities.
func TestDriveWorkers(t *testing.T) {
	c := fresh(t, 2)
	names := []string{"a", "b", "c", "d", "e"}
	for _, name := range names {
		does(t, c, start(name, "pay"))
	}
	does(t, c, work(1), work(1), cluster.Step{Kind: cluster.Call, Worker: 1}, cluster.Step{Kind: cluster.Take, Worker: 2})
	wantDrive(t, "once", c, 1, 1, false, 0)
	// The worker 1: the task of d; the activities of a, and of b. The worker 2: the tasks of c, and of e (a's and b's wait for the worker 1); the activity of d.
	for i, want := range []string{"task-scheduled", "task-scheduled", "activity-scheduled", "task-scheduled", "activity-scheduled"} {
		if l := lines(c, i+1); !strings.Contains(l[len(l)-1], " "+want+" ") {
			t.Errorf("%s: %q", names[i], l)
		}
	}
	wantDrive(t, "to its end", c, 100, 5, true, 40)
	wantSum(t, c, "[5 5 50]")
	for i := range names {
		if l := lines(c, i+1); l[len(l)-1] != `10 @0 run-completed ["done" 1]` {
			t.Errorf("%q", l)
		}
	}
}

// P28.3: what is lost, or wrong, is tried again in time.
func TestDriveAgain(t *testing.T) {
	c := fresh(t, 1)
	does(t, c, start("w", "pay3"), work(1), cluster.Step{Kind: cluster.Call, Worker: 1}, cluster.Step{Kind: cluster.Fault, Worker: 1, Text: "no"})
	wantDrive(t, "it waits for its next try", c, 1, 1, false, 7)
	wantDrive(t, "to its end", c, 100, 4, true, 47)
	wantSum(t, c, "[1 1 10]")
	// A result that may not be is none: each try is lost in time, and ticks pass up to the next one.
	c = fresh(t, 1)
	does(t, c, start("w", "pay3"))
	if n, ok := Drive(c, api.Value{Kind: 9}, 200); !ok {
		t.Errorf("%d, %v", n, ok)
	}
	if l := lines(c, 1); l[len(l)-1] != "10 @74 run-completed [nil -1]" {
		t.Errorf("%q", l)
	}
}

// P28.3: where the power goes: in a step of a worker it goes on, in a Tick it ends.
func TestDrivePower(t *testing.T) {
	ends := map[bool]int{}
	for fuse := range int64(40) {
		c := fresh(t, 1)
		does(t, c, start("w", "sleep"), cluster.Step{Kind: cluster.Fuse, N: fuse})
		n, ok := Drive(c, api.Value{}, 100)
		ends[ok]++
		if !ok && (n != 1 && n != 2 || c.Engine().Now() != 5 && c.Engine().Now() != 25) {
			t.Errorf("the fuse %d: %d, at %d", fuse, n, c.Engine().Now())
		}
		wantLook(t, "behind it", c)
		does(t, c, cluster.Step{Kind: cluster.Crash})
		if _, ok := Drive(c, api.Value{}, 100); !ok || len(Left(c, all(t))) != 0 {
			t.Errorf("the fuse %d: it isn't driven on", fuse)
		}
		wantLook(t, "in the end", c)
	}
	if ends[false] == 0 || ends[true] == 0 {
		t.Errorf("%v", ends)
	}
}

// P28.3: where there is no room a Tick isn't OK.
func TestDriveFull(t *testing.T) {
	c, e := cluster.New(34, 1, 1, all(t))
	if e != api.OK {
		t.Fatalf("cluster.New: %v", e)
	}
	does(t, c, start("w", "nap"), work(1))
	for c.Do(cluster.Step{Kind: cluster.Signal, Name: "w", Text: "x", Value: value.Text(strings.Repeat("x", 200))}).Code == api.OK {
	}
	for c.Do(cluster.Step{Kind: cluster.Signal, Name: "w", Text: "x"}).Code == api.OK {
	}
	n, ok := Drive(c, api.Value{}, 100)
	if ok || n != 0 || c.Engine().Now() != 1000 {
		t.Errorf("%d, %v, at %d", n, ok, c.Engine().Now())
	}
	wantLook(t, "without room", c)
}

// P2: the result is neither changed nor kept.
func TestDriveResult(t *testing.T) {
	c := fresh(t, 1)
	does(t, c, start("w", "pay"))
	parts := []api.Value{value.Of(7), value.Text("x")}
	Drive(c, value.List(parts...), 100)
	if value.Print(value.List(parts...)) != `[7 "x"]` {
		t.Error("the result is another one")
	}
	parts[0] = value.Of(8)
	if l := lines(c, 1); l[len(l)-1] != `10 @0 run-completed [[7 "x"] 1]` {
		t.Errorf("%q", l)
	}
}

// P28.3: it is what is done by steps, by hand.
func TestDriveByHand(t *testing.T) {
	for _, most := range []int{1, 2, 3, 5, 8, 9, 13, 30, 200} {
		var two [2]*cluster.Cluster
		for i := range two {
			two[i] = fresh(t, 3)
			for j, p := range []string{"sleep", "pay", "pay3", "either", "nap", "quick", "zero", "pay", "sleep", "ears"} {
				does(t, two[i], start(string(rune('a'+j)), p), cluster.Step{Kind: cluster.Tick, N: 1})
			}
			does(t, two[i], cluster.Step{Kind: cluster.Take, Worker: 2}, work(3), work(3), work(3), cluster.Step{Kind: cluster.Call, Worker: 3})
		}
		n, ok := Drive(two[0], value.Of(5), most)
		m, end := byHand(two[1], value.Of(5), most)
		if n != m || ok != end || !slices.Equal(two[0].Engine().Store().State(), two[1].Engine().Store().State()) || two[0].Engine().Now() != two[1].Engine().Now() {
			t.Errorf("%d times: %d, %v, want %d, %v", most, n, ok, m, end)
		}
	}
}

// byHand: Drive by the document's words.
func byHand(c *cluster.Cluster, result api.Value, most int) (int, bool) {
	third := 0
	for time := 1; time <= most; time++ {
		some := false
		step := func(kind, worker int) {
			r := c.Do(cluster.Step{Kind: kind, Worker: worker, Value: result})
			some = some || r.Code == api.OK
		}
		for worker := 1; worker <= c.Workers(); worker++ {
			step(cluster.Done, worker)
			step(cluster.Work, worker)
			step(cluster.End, worker)
			step(cluster.Call, worker)
			step(cluster.End, worker)
		}
		at, due := c.Engine().Due()
		if some {
			third = 0
		} else if !due {
			third++
		}
		if third == 3 {
			return time - 1, true
		}
		if !some || time%8 == 0 {
			ticks := int64(20)
			if due {
				ticks = at - c.Engine().Now()
				if ticks < 1 {
					ticks = 1
				}
				if ticks > engine.MaxTicks {
					ticks = engine.MaxTicks
				}
			}
			if c.Do(cluster.Step{Kind: cluster.Tick, N: ticks}).Code != api.OK {
				return time - 1, false
			}
		}
	}
	return most, false
}
