package cluster

import (
	"math"
	"reflect"
	"slices"
	"strings"
	"testing"

	"foliot/api"
	"foliot/value"
	"foliot/worker"
)

// P26.4: the steps of a worker that isn't there; kinds that there are none of.
func TestNoWorker(t *testing.T) {
	c := fresh(t)
	does(t, c, Step{Kind: Start, Name: "w", Text: "ears"})
	for _, worker := range []int{math.MinInt, -1, 0, 4, 8, 9, math.MaxInt} {
		for kind := Work; kind <= Evict; kind++ {
			refused(t, c, Step{Kind: kind, Worker: worker, N: 1}, api.ErrRange)
		}
	}
	for _, kind := range []int{math.MinInt, -1, 0, Fuse + 1, 255, 256 + Start, math.MaxInt} {
		for worker := 1; worker <= 3; worker++ {
			refused(t, c, Step{Kind: kind, Worker: worker, Name: "w"}, api.ErrKind)
		}
		// The error that the chapter names first.
		refused(t, c, Step{Kind: kind}, api.ErrRange)
	}
}

// P26.4: a worker takes a workflow task, and has it.
func TestTake(t *testing.T) {
	c := fresh(t)
	refused(t, c, Step{Kind: Take, Worker: 2}, api.ErrMissing)
	doesAll(t, c, Step{Kind: Start, Name: "v", Text: "ears"}, Step{Kind: Start, Name: "w", Text: "ears"}, Step{Kind: Start, Name: "x", Text: "ears"})
	wantReply(t, c, Step{Kind: Take, Worker: 2, N: 3, Name: "w"}, 1, api.Value{})
	wantEnd(t, c, 1, `3 @0 task-started 2 1`)
	refused(t, c, Step{Kind: Take, Worker: 2}, api.ErrBusy)
	refused(t, c, Step{Kind: Work, Worker: 2}, api.ErrBusy)
	wantReply(t, c, Step{Kind: Take, Worker: 3}, 2, api.Value{})
	if l := c.Engine().Match().Leases(); len(l) != 2 || l[0].Worker != 2 || l[1].Worker != 3 {
		t.Errorf("Leases: %+v", l)
	}
	// A task isn't in the way of an activity.
	refused(t, c, Step{Kind: Call, Worker: 2}, api.ErrMissing)
	// There is no such program any more: the task has gone wrong, and nobody has it.
	delete(c.programs, "ears")
	for _, kind := range []int{Take, Work} {
		if r := c.Do(Step{Kind: kind, Worker: 1}); !reflect.DeepEqual(r, Reply{Code: api.ErrOther}) {
			t.Fatalf("no program: %+v", r)
		}
		refused(t, c, Step{Kind: Done, Worker: 1}, api.ErrMissing)
	}
	wantEnd(t, c, 3, `7 @0 task-failed 2 "no program"`, `8 @0 task-scheduled 3`)
}

// P26.4: a worker does the task that it has.
func TestDone(t *testing.T) {
	c := fresh(t)
	refused(t, c, Step{Kind: Done, Worker: 2}, api.ErrMissing)
	doesAll(t, c, Step{Kind: Start, Name: "v", Text: "ears"}, Step{Kind: Start, Name: "w", Text: "sleep"})
	doesAll(t, c, Step{Kind: Take, Worker: 2}, Step{Kind: Take, Worker: 1})
	refused(t, c, Step{Kind: Done, Worker: 3}, api.ErrMissing)
	wantReply(t, c, Step{Kind: Done, Worker: 1, Name: "v", N: 7, Value: value.Of(5)}, 2, value.Of(1))
	wantEnd(t, c, 2, `3 @0 task-started 1 1`, `4 @0 task-completed 1 0`, `5 @0 timer-started 1 5`)
	refused(t, c, Step{Kind: Done, Worker: 1}, api.ErrMissing)
	wantReply(t, c, Step{Kind: Done, Worker: 2}, 1, value.Of(0))
	wantEnd(t, c, 1, `3 @0 task-started 2 1`, `4 @0 task-completed 0 0`)
	if !slices.Equal(c.hands[0].worker.Cached(), []int{2}) || !slices.Equal(c.hands[1].worker.Cached(), []int{1}) || len(c.hands[2].worker.Cached()) != 0 {
		t.Error("other workers did it")
	}
}

// P26.4: a task that wants more than one batch may tell: more is to come.
func TestDoneMore(t *testing.T) {
	call := "push \"" + strings.Repeat("x", 250) + "\"; push 0; call \"a\"; pop; "
	p, codes := Load(parsed(t, "many", strings.Repeat(call, 5)+"signal \"go\"; return"))
	want(t, "Load", codes[0], api.OK)
	c := newCluster(t, 200, 1, 1, p)
	does(t, c, Step{Kind: Start, Name: "w", Text: "many"})
	wantReply(t, c, Step{Kind: Work, Worker: 1}, 1, value.Of(2))
	if l := history(c, 1); l[3] != `4 @0 task-completed 2 1` || l[6] != `7 @0 task-scheduled 1` {
		t.Errorf("more is to come: %q", l)
	}
	wantReply(t, c, Step{Kind: Work, Worker: 1}, 1, value.Of(2))
	wantReply(t, c, Step{Kind: Work, Worker: 1}, 1, value.Of(1))
	refused(t, c, Step{Kind: Work, Worker: 1}, api.ErrMissing)
	if h := c.hands[0].worker; h.Hits() != 2 || h.Misses() != 1 {
		t.Errorf("%d hits, %d misses", h.Hits(), h.Misses())
	}
}

// P26.4: a program that doesn't want what was written makes the task go wrong.
func TestNondeterminism(t *testing.T) {
	c := fresh(t)
	doesAll(t, c, Step{Kind: Start, Name: "w", Text: "sleep"}, Step{Kind: Work, Worker: 1}, Step{Kind: Tick, N: 5})
	other := parsed(t, "sleep", "push 6; timer; wait; return")
	c.programs["sleep"] = other
	for _, kind := range []int{Done, Work} {
		if kind == Done {
			does(t, c, Step{Kind: Take, Worker: 1})
		}
		if r := c.Do(Step{Kind: kind, Worker: 1}); !reflect.DeepEqual(r, Reply{Code: api.ErrOther}) {
			t.Fatalf("another program: %+v", r)
		}
		refused(t, c, Step{Kind: Done, Worker: 1}, api.ErrMissing)
	}
	wantEnd(t, c, 1,
		`8 @5 task-started 1 1`, `9 @5 task-failed 1 "nondeterminism"`, `10 @5 task-scheduled 2`,
		`11 @5 task-started 1 2`, `12 @5 task-failed 2 "nondeterminism"`, `13 @5 task-scheduled 3`)
	// If that can't be told, it is Fail's error that is answered: the worker had the task for too long.
	doesAll(t, c, Step{Kind: Take, Worker: 1}, Step{Kind: Tick, N: 20})
	late(t, c, Step{Kind: Done, Worker: 1}, api.ErrToken)
	// If the power goes by it, that's the answer.
	doesAll(t, c, Step{Kind: Take, Worker: 1}, Step{Kind: Fuse})
	refusedDown(t, c, Step{Kind: Done, Worker: 1})
	wantEnd(t, c, 1, `15 @5 task-timed-out 3`, `16 @5 task-scheduled 4`, `17 @5 task-started 1 4`)
}

// late: a worker has something no more, by a step that is answered by an error.
func late(t *testing.T, c *Cluster, s Step, code api.Errno) {
	t.Helper()
	was := string(c.Engine().Store().State())
	if r := c.Do(s); !reflect.DeepEqual(r, Reply{Code: code}) || string(c.Engine().Store().State()) != was {
		t.Fatalf("%+v: %+v, want %v alone", s, r, code)
	}
	refused(t, c, s, api.ErrMissing)
}

// P26.4: a task that was had for too long, or for a run that is over, can't be completed.
func TestDoneLate(t *testing.T) {
	c := fresh(t)
	doesAll(t, c, Step{Kind: Start, Name: "w", Text: "ears"}, Step{Kind: Take, Worker: 1}, Step{Kind: Tick, N: 20})
	late(t, c, Step{Kind: Done, Worker: 1}, api.ErrToken)
	doesAll(t, c, Step{Kind: Take, Worker: 1}, Step{Kind: Terminate, Name: "w"})
	late(t, c, Step{Kind: Done, Worker: 1}, api.ErrToken)
}

// P26.4: layer 25's Complete's error, where its commands may not be.
func TestDoneBad(t *testing.T) {
	c := fresh(t)
	doesAll(t, c, Step{Kind: Start, Name: "w", Text: "sleep"}, Step{Kind: Work, Worker: 1}, Step{Kind: Signal, Name: "w", Text: "go"}, Step{Kind: Take, Worker: 1})
	// The worker was told less than there is: it wants once more what it wanted first.
	c.hands[0].task.Job.Events = c.hands[0].task.Job.Events[:3]
	if r := c.Do(Step{Kind: Done, Worker: 1}); !reflect.DeepEqual(r, Reply{Code: api.ErrTwice}) {
		t.Fatalf("what may not be: %+v", r)
	}
	wantEnd(t, c, 1, `8 @0 task-started 1 1`, `9 @0 task-failed 1 "bad"`, `10 @0 task-scheduled 2`)
	refused(t, c, Step{Kind: Done, Worker: 1}, api.ErrMissing)
}

// P26.4: Work is Take and Done: it answers what Done does, or the first error.
func TestWork(t *testing.T) {
	c := fresh(t)
	refused(t, c, Step{Kind: Work, Worker: 1}, api.ErrMissing)
	does(t, c, Step{Kind: Start, Name: "w", Text: "quick"})
	wantReply(t, c, Step{Kind: Work, Worker: 1, N: 4, Text: "x"}, 1, value.Of(1))
	wantEnd(t, c, 1, `3 @0 task-started 1 1`, `4 @0 task-completed 1 0`, `5 @0 run-completed nil`)
	refused(t, c, Step{Kind: Done, Worker: 1}, api.ErrMissing)
	// The power goes behind what Take writes.
	doesAll(t, c, Step{Kind: Start, Name: "w", Text: "ears"}, Step{Kind: Fuse, N: 4})
	refusedDown(t, c, Step{Kind: Work, Worker: 1})
	wantEnd(t, c, 2, `3 @0 task-started 1 1`)
	refused(t, c, Step{Kind: Done, Worker: 1}, api.ErrMissing)
}

// P26.4: a worker drops what it has, and nobody is told: it may be taken anew when it is lost, and not sooner; what others have stays theirs.
func TestDrop(t *testing.T) {
	c := fresh(t)
	wantReply(t, c, Step{Kind: Drop, Worker: 1}, 0, api.Value{})
	doesAll(t, c, Step{Kind: Start, Name: "w", Text: "pay"}, Step{Kind: Start, Name: "v", Text: "ears"}, Step{Kind: Start, Name: "u", Text: "ears"})
	doesAll(t, c, Step{Kind: Work, Worker: 1}, Step{Kind: Take, Worker: 1}, Step{Kind: Call, Worker: 1}, Step{Kind: Take, Worker: 2})
	leases := c.Engine().Match().Leases()
	wantReply(t, c, Step{Kind: Drop, Worker: 1, N: 3, Name: "w"}, 0, api.Value{})
	if got := c.Engine().Match().Leases(); len(got) != 3 || !slices.Equal(got, leases) {
		t.Errorf("Drop: %+v, was %+v", got, leases)
	}
	for _, kind := range []int{Done, End, Fault} {
		refused(t, c, Step{Kind: kind, Worker: 1}, api.ErrMissing)
	}
	if !slices.Equal(c.hands[0].worker.Cached(), []int{1}) {
		t.Error("Drop: it doesn't remember what it did")
	}
	refused(t, c, Step{Kind: Take, Worker: 1}, api.ErrMissing)
	refused(t, c, Step{Kind: Call, Worker: 1}, api.ErrMissing)
	wantReply(t, c, Step{Kind: Done, Worker: 2}, 3, value.Of(0))
	doesAll(t, c, Step{Kind: Tick, N: 20})
	wantReply(t, c, Step{Kind: Take, Worker: 1}, 2, api.Value{})
}

// P26.4: a worker takes an activity, and has it; it ends by a result.
func TestCall(t *testing.T) {
	c := fresh(t)
	for _, kind := range []int{Call, End, Fault} {
		refused(t, c, Step{Kind: kind, Worker: 1}, api.ErrMissing)
	}
	in := value.List(value.Of(4), value.List(value.Text("x")))
	doesAll(t, c, Step{Kind: Start, Name: "v", Text: "ears"}, Step{Kind: Start, Name: "w", Text: "pay", Value: in})
	doesAll(t, c, Step{Kind: Work, Worker: 1}, Step{Kind: Work, Worker: 1})
	wantReply(t, c, Step{Kind: Call, Worker: 3, N: 8, Name: "v", Value: value.Of(5)}, 1, in)
	refused(t, c, Step{Kind: Call, Worker: 3}, api.ErrBusy)
	refused(t, c, Step{Kind: Call, Worker: 1}, api.ErrMissing)
	refused(t, c, Step{Kind: End, Worker: 1}, api.ErrMissing)
	// An activity isn't in the way of a task.
	refused(t, c, Step{Kind: Take, Worker: 3}, api.ErrMissing)
	wantReply(t, c, Step{Kind: End, Worker: 3, Text: "no", N: 4, Value: value.List(value.Of(7))}, 0, api.Value{})
	wantEnd(t, c, 2, `6 @0 activity-completed 1 [7]`, `7 @0 task-scheduled 1`)
	for _, kind := range []int{End, Fault} {
		refused(t, c, Step{Kind: kind, Worker: 3}, api.ErrMissing)
	}
	does(t, c, Step{Kind: Work, Worker: 1})
	wantEnd(t, c, 2, `10 @0 run-completed [[7] 1]`)
}

// P26.4: what is answered of an activity is the activity's number, not the run's or the token; its input is the caller's.
func TestCallNumber(t *testing.T) {
	p, codes := Load(parsed(t, "two", "push 1; push 0; call \"a\"; pop; input; push 15; call \"b\"; join; return"))
	want(t, "Load", codes[0], api.OK)
	c := newCluster(t, 100, 2, 1, p)
	doesAll(t, c, Step{Kind: Start, Name: "w", Text: "two", Value: value.List(value.Of(6))}, Step{Kind: Work, Worker: 1})
	wantReply(t, c, Step{Kind: Call, Worker: 2}, 1, value.Of(1))
	does(t, c, Step{Kind: Drop, Worker: 2})
	r := does(t, c, Step{Kind: Call, Worker: 2})
	if r.N != 2 || value.Print(r.Value) != "[6]" {
		t.Fatalf("Call: %+v", r)
	}
	r.Value.List[0] = value.Of(9)
	doesAll(t, c, Step{Kind: Lose, Worker: 2}, Step{Kind: Tick})
	wantReply(t, c, Step{Kind: Call, Worker: 1}, 2, value.List(value.Of(6)))
}

// P26.4: an activity goes wrong, and is tried again; what may not be, or comes too late, is refused, and the worker has it no more.
func TestFault(t *testing.T) {
	c := fresh(t)
	begin := func() {
		t.Helper()
		doesAll(t, c, Step{Kind: Start, Name: "w", Text: "pay"}, Step{Kind: Work, Worker: 1}, Step{Kind: Call, Worker: 2})
	}
	begin()
	wantReply(t, c, Step{Kind: Fault, Worker: 2, Text: "no", Value: value.Of(3), N: 2}, 0, api.Value{})
	refused(t, c, Step{Kind: Fault, Worker: 2, Text: "no"}, api.ErrMissing)
	refused(t, c, Step{Kind: Call, Worker: 2}, api.ErrMissing)
	doesAll(t, c, Step{Kind: Tick, N: 2}, Step{Kind: Call, Worker: 3}, Step{Kind: Fault, Worker: 3}, Step{Kind: Tick, N: 6}, Step{Kind: Call, Worker: 3}, Step{Kind: Fault, Worker: 3, Text: "why"})
	wantEnd(t, c, 1, `6 @8 activity-failed 1 "why"`, `7 @8 task-scheduled 1`)
	does(t, c, Step{Kind: Work, Worker: 1})
	begin()
	late(t, c, Step{Kind: Fault, Worker: 2, Text: strings.Repeat("x", 65)}, api.ErrLong)
	doesAll(t, c, Step{Kind: Terminate, Name: "w"})
	begin()
	late(t, c, Step{Kind: End, Worker: 2, Value: api.Value{Kind: 7}}, api.ErrKind)
	doesAll(t, c, Step{Kind: Terminate, Name: "w"})
	for _, kind := range []int{End, Fault} {
		begin()
		does(t, c, Step{Kind: Tick, N: 9})
		late(t, c, Step{Kind: kind, Worker: 2}, api.ErrToken)
		doesAll(t, c, Step{Kind: Terminate, Name: "w"})
		begin()
		doesAll(t, c, Step{Kind: Terminate, Name: "w"})
		late(t, c, Step{Kind: kind, Worker: 2}, api.ErrToken)
	}
	begin()
	wantReply(t, c, Step{Kind: Fault, Worker: 2, Text: strings.Repeat("x", 64)}, 0, api.Value{})
}

// P26.4: a worker is gone: it has nothing, remembers nothing, and the server knows.
func TestLose(t *testing.T) {
	c := fresh(t)
	wantReply(t, c, Step{Kind: Lose, Worker: 2}, 0, api.Value{})
	doesAll(t, c, Step{Kind: Start, Name: "w", Text: "pay"}, Step{Kind: Start, Name: "v", Text: "ears"}, Step{Kind: Work, Worker: 2}, Step{Kind: Take, Worker: 2}, Step{Kind: Call, Worker: 2})
	wantReply(t, c, Step{Kind: Lose, Worker: 2, N: 4, Name: "w"}, 0, api.Value{})
	wantEnd(t, c, 2, `4 @0 task-timed-out 1`, `5 @0 task-scheduled 2`)
	for _, kind := range []int{Done, End, Fault} {
		refused(t, c, Step{Kind: kind, Worker: 2}, api.ErrMissing)
	}
	if len(c.hands[1].worker.Cached()) != 0 || len(c.Engine().Match().Leases()) != 0 {
		t.Error("Lose: something is left")
	}
	wantReply(t, c, Step{Kind: Take, Worker: 1}, 2, api.Value{})
	doesAll(t, c, Step{Kind: Tick, N: 2})
	wantReply(t, c, Step{Kind: Call, Worker: 2}, 1, api.Value{})
	// Others keep what they have.
	doesAll(t, c, Step{Kind: Lose, Worker: 3}, Step{Kind: Done, Worker: 1}, Step{Kind: End, Worker: 2})
	// If that can't be written it is so all the same.
	doesAll(t, c, Step{Kind: Take, Worker: 1}, Step{Kind: Fuse})
	refusedDown(t, c, Step{Kind: Lose, Worker: 1})
	if len(c.hands[0].worker.Cached()) != 0 {
		t.Error("Lose: it remembers something")
	}
}

// P26.4: Lose answers ErrFull, where there is no room to tell what was lost.
func TestLoseFull(t *testing.T) {
	c := newCluster(t, spare, 2, 1, all(t))
	doesAll(t, c, Step{Kind: Start, Name: "w", Text: "ears"}, Step{Kind: Take, Worker: 2})
	fill(t, c)
	for r := (Reply{}); r.Code != api.ErrFull; {
		if r = c.Do(Step{Kind: Work, Worker: 1}); r.Code != api.ErrFull {
			want(t, "Work", r.Code, api.OK)
		}
	}
	if r := c.Do(Step{Kind: Lose, Worker: 2}); !reflect.DeepEqual(r, Reply{Code: api.ErrFull}) {
		t.Fatalf("Lose: %+v", r)
	}
	refused(t, c, Step{Kind: Done, Worker: 2}, api.ErrMissing)
}

// P26.4: a worker forgets one run.
func TestEvict(t *testing.T) {
	c := fresh(t)
	doesAll(t, c, Step{Kind: Start, Name: "v", Text: "ears"}, Step{Kind: Start, Name: "w", Text: "ears"}, Step{Kind: Start, Name: "u", Text: "ears"})
	doesAll(t, c, Step{Kind: Work, Worker: 1}, Step{Kind: Work, Worker: 1}, Step{Kind: Work, Worker: 2})
	for _, n := range []int64{math.MinInt64, -1, 0, 4, 1<<31 + 2, 1<<32 + 2, math.MaxInt64} {
		wantReply(t, c, Step{Kind: Evict, Worker: 1, N: n}, 0, api.Value{})
	}
	if !slices.Equal(c.hands[0].worker.Cached(), []int{1, 2}) {
		t.Errorf("Evict: %v", c.hands[0].worker.Cached())
	}
	wantReply(t, c, Step{Kind: Evict, Worker: 2, N: 1}, 0, api.Value{})
	wantReply(t, c, Step{Kind: Evict, Worker: 1, N: 1, Name: "w"}, 0, api.Value{})
	if !slices.Equal(c.hands[0].worker.Cached(), []int{2}) || !slices.Equal(c.hands[1].worker.Cached(), []int{3}) {
		t.Errorf("Evict: %v, %v", c.hands[0].worker.Cached(), c.hands[1].worker.Cached())
	}
	// The server has the worker in mind as before.
	doesAll(t, c, Step{Kind: Signal, Name: "v", Text: "go"})
	refused(t, c, Step{Kind: Take, Worker: 3}, api.ErrMissing)
	does(t, c, Step{Kind: Work, Worker: 1})
	if h := c.hands[0].worker; h.Hits() != 0 || h.Misses() != 3 {
		t.Errorf("%d hits, %d misses", h.Hits(), h.Misses())
	}
	// Evict's ends: of numbers below 0 it is 0, of those above 2^31 that.
	w := c.hands[2].worker
	for _, x := range []struct {
		n   int64
		run int
	}{{-5, 0}, {1<<31 + 5, 1 << 31}} {
		job := worker.Job{Run: x.run, Image: parsed(t, "quick", quick).Image(), Events: c.Engine().Store().All(1)}
		if _, e := w.Do(job); e != api.OK || !slices.Equal(w.Cached(), []int{x.run}) {
			t.Fatalf("Do: %v", e)
		}
		does(t, c, Step{Kind: Evict, Worker: 3, N: x.n})
		if len(w.Cached()) != 0 {
			t.Errorf("Evict(%d): %v", x.n, w.Cached())
		}
	}
}
