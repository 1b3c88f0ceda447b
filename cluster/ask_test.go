package cluster

import (
	"fmt"
	"math"
	"reflect"
	"strings"
	"testing"

	"foliot/api"
	"foliot/engine"
	"foliot/event"
	"foliot/machine"
	"foliot/run"
	"foliot/value"
)

// wantReply: a step is answered so.
func wantReply(t *testing.T, c *Cluster, s Step, n int64, v api.Value) {
	t.Helper()
	if r := c.Do(s); !reflect.DeepEqual(r, Reply{N: n, Value: v}) {
		t.Fatalf("%+v: %+v, want %d, %s", s, r, n, value.Print(v))
	}
}

// P26.3: a run begins, with all that the step has.
func TestStart(t *testing.T) {
	c := fresh(t)
	does(t, c, Step{Kind: Tick, N: 3})
	// What has no meaning in a step doesn't count: there is no worker 99.
	wantReply(t, c, Step{Kind: Start, Worker: 99, Name: "w", Text: "ears", Again: "* * * * *", N: 50, Keep: 7, Value: value.List(value.Of(4), value.Text("x"))}, 1, api.Value{})
	wantHistory(t, c, 1, `1 @3 run-started 50 0 "ears" "* * * * *" [4 "x"]`, `2 @3 task-scheduled 1`)
	wantReply(t, c, Step{Kind: Start, Text: "quick", N: math.MaxInt64}, 2, api.Value{})
	wantHistory(t, c, 2, `1 @3 run-started 9223372036854775807 0 "quick" "" nil`, `2 @3 task-scheduled 1`)
	if c.Engine().Store().Find("w") != 1 || c.Engine().Store().Find("") != 2 {
		t.Error("Start: other names")
	}
	long := strings.Repeat("x", 65)
	for _, x := range []struct {
		s    Step
		code api.Errno
	}{
		{Step{Name: "w", Text: "none", Again: "x", N: -1}, api.ErrMissing},
		{Step{Name: "w", Text: "sleep", Again: "* *", N: -1}, api.ErrField},
		{Step{Name: "w", Text: "sleep", Again: "", N: -1}, api.ErrBusy},
		{Step{Name: "v", Text: "sleep", N: -1}, api.ErrRange},
		{Step{Name: "v", Text: "sleep", N: math.MinInt64}, api.ErrRange},
		{Step{Name: "v", Text: "sleep", Value: api.Value{Kind: 9}}, api.ErrKind},
		{Step{Name: long, Text: "sleep"}, api.ErrLong},
	} {
		x.s.Kind = Start
		refused(t, c, x.s, x.code)
	}
}

// P26.3: what comes for a workflow's last run.
func TestSend(t *testing.T) {
	c := fresh(t)
	for _, kind := range []int{Signal, Cancel, Terminate, Query, Describe} {
		refused(t, c, Step{Kind: kind, Name: "w"}, api.ErrMissing)
	}
	doesAll(t, c, Step{Kind: Start, Name: "w", Text: "ears"}, Step{Kind: Tick, N: 2})
	wantReply(t, c, Step{Kind: Signal, Name: "w", Text: "go", N: 5, Again: "x", Value: value.Of(8)}, 0, api.Value{})
	wantReply(t, c, Step{Kind: Cancel, Name: "w", Text: "x", N: 5, Value: value.Of(8)}, 0, api.Value{})
	wantEnd(t, c, 1, `3 @2 signal-received "go" 8`, `4 @2 cancel-requested`)
	long := strings.Repeat("x", 65)
	refused(t, c, Step{Kind: Signal, Name: "w", Text: long}, api.ErrLong)
	refused(t, c, Step{Kind: Signal, Name: "w", Text: "go", Value: api.Value{Kind: -1}}, api.ErrKind)
	refused(t, c, Step{Kind: Signal, Name: "v", Text: "go"}, api.ErrMissing)
	refused(t, c, Step{Kind: Terminate, Name: "w", Text: long}, api.ErrLong)
	wantReply(t, c, Step{Kind: Terminate, Name: "w", Text: "why", N: 5, Value: value.Of(8)}, 0, api.Value{})
	wantEnd(t, c, 1, `5 @2 run-terminated "why"`)
	for _, kind := range []int{Signal, Cancel, Terminate} {
		refused(t, c, Step{Kind: kind, Name: "w"}, api.ErrClosed)
	}
	// A run behind that is the last one.
	doesAll(t, c, Step{Kind: Start, Name: "w", Text: "ears"}, Step{Kind: Signal, Name: "w", Text: "go"})
	wantEnd(t, c, 2, `3 @2 signal-received "go" nil`)
}

// P26.3: what a program waits for, and its name.
func TestQuery(t *testing.T) {
	p, codes := Load(
		parsed(t, "sleep", sleep), parsed(t, "ears", ears), parsed(t, "either", either), parsed(t, "quick", quick),
		parsed(t, "wants", "push 1; push 0; call \"pay\"; join; pop; return"))
	for _, e := range codes {
		want(t, "Load", e, api.OK)
	}
	c := newCluster(t, 200, 1, 1, p)
	for _, x := range []struct {
		program string
		waits   int64
		name    string
	}{{"sleep", machine.ForTimer, ""}, {"ears", machine.ForSignal, "go"}, {"either", machine.ForEither, "stop"}, {"wants", machine.ForActivity, ""}, {"quick", machine.Over, ""}} {
		does(t, c, Step{Kind: Start, Name: x.program, Text: x.program})
		wantReply(t, c, Step{Kind: Query, Name: x.program, N: 9, Text: "x"}, x.waits, value.Text(x.name))
	}
	delete(p, "ears")
	refused(t, c, Step{Kind: Query, Name: "ears"}, api.ErrOther)
	refused(t, c, Step{Kind: Query, Name: "go"}, api.ErrMissing)
}

// five: a list of five numbers.
func five(list ...int64) api.Value {
	var l []api.Value
	for _, n := range list {
		l = append(l, value.Of(n))
	}
	return value.List(l...)
}

// P26.3: what is known of a workflow's last run: its events, whether it is over, its open timers, its open activities, its task's state.
func TestDescribe(t *testing.T) {
	p, codes := Load(parsed(t, "open", "push 5; timer; pop; push 6; timer; pop; push 7; timer; pop; push 1; push 0; call \"a\"; pop; push 1; push 0; call \"b\"; join; return"), parsed(t, "ears", ears))
	want(t, "Load", codes[0], api.OK)
	c := newCluster(t, 200, 2, 1, p)
	describe := Step{Kind: Describe, Name: "w", N: 7, Worker: -1}
	does(t, c, Step{Kind: Start, Name: "other", Text: "ears"})
	does(t, c, Step{Kind: Start, Name: "w", Text: "open"})
	wantReply(t, c, describe, 2, five(2, 0, 0, 0, run.Scheduled))
	doesAll(t, c, Step{Kind: Work, Worker: 1}, Step{Kind: Take, Worker: 1})
	wantReply(t, c, describe, 2, five(3, 0, 0, 0, run.Started))
	does(t, c, Step{Kind: Done, Worker: 1})
	wantReply(t, c, describe, 2, five(9, 0, 3, 2, run.None))
	does(t, c, Step{Kind: Tick, N: 5})
	wantReply(t, c, describe, 2, five(11, 0, 2, 2, run.Scheduled))
	doesAll(t, c, Step{Kind: Call, Worker: 2}, Step{Kind: End, Worker: 2})
	wantReply(t, c, describe, 2, five(12, 0, 2, 1, run.Scheduled))
	does(t, c, Step{Kind: Terminate, Name: "w"})
	if r := does(t, c, describe); r.N != 2 || !value.Same(r.Value.List[0], value.Of(13)) || !value.Same(r.Value.List[1], value.Of(1)) {
		t.Errorf("Describe: %+v", r)
	}
	does(t, c, Step{Kind: Start, Name: "w", Text: "open"})
	wantReply(t, c, describe, 3, five(2, 0, 0, 0, run.Scheduled))
	wantReply(t, c, Step{Kind: Describe, Name: "other"}, 1, five(4, 0, 0, 0, run.None))
	refused(t, c, Step{Kind: Describe, Name: "o"}, api.ErrMissing)
	// What is answered is the caller's.
	r := does(t, c, describe)
	r.Value.List[0] = value.Text("x")
	wantReply(t, c, describe, 3, five(2, 0, 0, 0, run.Scheduled))
}

// P26.3: runs that are over are forgotten, by their numbers.
func TestForget(t *testing.T) {
	c := fresh(t)
	doesAll(t, c, Step{Kind: Start, Name: "w", Text: "quick"}, Step{Kind: Start, Name: "v", Text: "ears"})
	for _, n := range []int64{math.MinInt64, -1, 0, 3, 1<<31 + 1, 1<<32 + 1, math.MaxInt64} {
		refused(t, c, Step{Kind: Forget, N: n, Name: "w"}, api.ErrMissing)
	}
	refused(t, c, Step{Kind: Forget, N: 1}, api.ErrState)
	does(t, c, Step{Kind: Work, Worker: 1})
	wantReply(t, c, Step{Kind: Forget, N: 1}, 0, api.Value{})
	refused(t, c, Step{Kind: Describe, Name: "w"}, api.ErrMissing)
	refused(t, c, Step{Kind: Forget, N: 1}, api.ErrMissing)
	wantReply(t, c, Step{Kind: Start, Name: "w", Text: "quick"}, 3, api.Value{})
}

// P26.3: time passes, and the tick is answered.
func TestTick(t *testing.T) {
	c := fresh(t)
	wantReply(t, c, Step{Kind: Tick}, 0, api.Value{})
	wantReply(t, c, Step{Kind: Tick, N: 3, Worker: 44, Keep: -1, Name: "x"}, 3, api.Value{})
	for _, n := range []int64{math.MinInt64, -1, 1<<20 + 1, 1 << 32, math.MaxInt64} {
		refused(t, c, Step{Kind: Tick, N: n}, api.ErrRange)
	}
	wantReply(t, c, Step{Kind: Tick, N: 1 << 20}, 1<<20+3, api.Value{})
	wantReply(t, c, Step{Kind: Tick, N: 1<<20 - 1}, 1<<21+2, api.Value{})
	// No script comes to the end of time so soon.
	var e api.Errno
	c.engine, e = engine.Open(c.disk, c.programs, event.MaxTime-5)
	want(t, "Open", e, api.OK)
	refused(t, c, Step{Kind: Tick, N: 6}, api.ErrRange)
	refused(t, c, Step{Kind: Tick, N: 1 << 20}, api.ErrRange)
	wantReply(t, c, Step{Kind: Tick, N: 5}, event.MaxTime, api.Value{})
	refused(t, c, Step{Kind: Tick, N: 1}, api.ErrRange)
	wantReply(t, c, Step{Kind: Tick}, event.MaxTime, api.Value{})
}

// P26.3: a Tick whose events find no room is answered by that alone; it is later all the same.
func TestTickFull(t *testing.T) {
	c := newCluster(t, spare, 1, 1, all(t))
	doesAll(t, c, Step{Kind: Start, Name: "w", Text: "sleep"}, Step{Kind: Work, Worker: 1})
	fill(t, c)
	if r := c.Do(Step{Kind: Tick, N: 6}); !reflect.DeepEqual(r, Reply{Code: api.ErrFull}) || c.Engine().Now() != 6 {
		t.Errorf("Tick: %+v, at %d", r, c.Engine().Now())
	}
	does(t, c, Step{Kind: Crash})
	if c.Engine().Now() != 6 {
		t.Errorf("Crash: at %d", c.Engine().Now())
	}
}

// fill: workflows begin until there is no room for one of the least names any more.
func fill(t *testing.T, c *Cluster) {
	t.Helper()
	for size := 500; size >= 0; {
		s := Step{Kind: Start, Name: fmt.Sprint(c.Engine().Store().Next()), Text: "quick", Value: value.List(value.Text(strings.Repeat("x", size/2)), value.Text(strings.Repeat("x", size/2)))}
		r := c.Do(s)
		if r.Code == api.ErrFull {
			size -= 100
			continue
		}
		want(t, "Start", r.Code, api.OK)
	}
	if r := c.Do(Step{Kind: Signal, Name: "w", Text: "x"}); r.Code != api.ErrFull {
		for r.Code == api.OK {
			r = c.Do(Step{Kind: Signal, Name: "w", Text: "x"})
		}
		want(t, "Signal", r.Code, api.ErrFull)
	}
}
