package engine

import (
	"reflect"
	"strings"
	"testing"

	"foliot/api"
	"foliot/policy"
	"foliot/value"
)

// prepared: a server at the tick 2 with a run that has an activity done, by a policy; the activity waits.
func prepared(t *testing.T, p policy.Policy) *Engine {
	t.Helper()
	x := open(t, newDisk(t, 500), programs(t, "p", calls(t, p), "ears", ears), 2)
	starts(t, x, "w", "p")
	does(t, x, 1)
	wantEvents(t, x, 1, 4, `4 @2 task-completed 1 0`, `5 @2 activity-scheduled 1 `+value.Print(value.Of(policyOf(t, p)))+` "pay" "in"`)
	wantWaiting(t, x, activity(1, 1))
	return x
}

// once: a policy of one try, without waits and limits.
var once = policy.Policy{Tries: 1, Factor: 1}

// P25.6: what a worker is given.
func TestPollCall(t *testing.T) {
	x := prepared(t, once)
	p := x.Store().Batches()
	c := takes(t, x, 9)
	if want := (Call{Token: 2, Run: 1, ID: 1, Name: "pay", Input: value.Text("in"), Try: 1}); !reflect.DeepEqual(c, want) {
		t.Errorf("PollCall: %+v", c)
	}
	if l := x.Match().Leases(); len(l) != 1 || l[0].Task != activity(1, 1) || l[0].Worker != 9 || l[0].Until != 22 || x.Store().Batches() != p {
		t.Errorf("Leases: %v", l)
	}
	wantWaiting(t, x)
	wantDue(t, x, 0, false)
}

// P25.6: CompleteCall.
func TestCompleteCall(t *testing.T) {
	x := prepared(t, once)
	c := takes(t, x, 9)
	ticks(t, x, 3)
	refused(t, x, "CompleteCall", func() api.Errno { return x.CompleteCall(c.Token, api.Value{Kind: 9}) }, api.ErrKind)
	refused(t, x, "CompleteCall", func() api.Errno { return x.CompleteCall(c.Token, value.Text(strings.Repeat("a", 257))) }, api.ErrLong)
	want(t, "CompleteCall", x.CompleteCall(c.Token, value.Of(8)), api.OK)
	wantEvents(t, x, 1, 6, `6 @5 activity-completed 1 8`, `7 @5 task-scheduled 1`)
	wantWaiting(t, x, flow(1))
	wantWhere(t, x, flow(1), 1)
	if len(x.tries) != 0 || len(x.Match().Leases()) != 0 {
		t.Errorf("%v is kept", x.tries)
	}
	does(t, x, 1)
	wantEvents(t, x, 1, 10, `10 @5 run-completed [8 1]`)
}

// P25.6: a try that went wrong; the activity isn't tried again.
func TestFailCall(t *testing.T) {
	x := prepared(t, once)
	c := takes(t, x, 9)
	ticks(t, x, 3)
	refused(t, x, "FailCall", func() api.Errno { return x.FailCall(c.Token, strings.Repeat("x", 65)) }, api.ErrLong)
	want(t, "FailCall", x.FailCall(c.Token, strings.Repeat("x", 64)), api.OK)
	wantEvents(t, x, 1, 6, `6 @5 activity-failed 1 "`+strings.Repeat("x", 64)+`"`, `7 @5 task-scheduled 1`)
	refused(t, x, "FailCall", func() api.Errno { return x.FailCall(c.Token, "") }, api.ErrToken)
	if len(x.tries) != 0 || len(x.Match().Leases()) != 0 {
		t.Errorf("%v is kept", x.tries)
	}
	x = prepared(t, once)
	want(t, "FailCall", x.FailCall(takes(t, x, 9).Token, ""), api.OK)
	wantEvents(t, x, 1, 6, `6 @2 activity-failed 1 ""`, `7 @2 task-scheduled 1`)
}

// P25.6: it is tried again as often, and as late, as its policy says; that isn't written.
func TestTryAgain(t *testing.T) {
	x := prepared(t, policy.Policy{Tries: 3, First: 2, Factor: 3})
	batches := x.Store().Batches()
	for i, wait := range []int{2, 6} {
		c := takes(t, x, 9)
		if c.Try != i+1 {
			t.Errorf("PollCall: %+v", c)
		}
		refused(t, x, "FailCall", func() api.Errno { return x.FailCall(c.Token, strings.Repeat("x", 65)) }, api.ErrLong)
		want(t, "FailCall", x.FailCall(c.Token, "no"), api.OK)
		if len(x.Match().Leases()) != 0 {
			t.Errorf("Leases: %v", x.Match().Leases())
		}
		wantDue(t, x, x.Now()+int64(wait), true)
		wantWaiting(t, x)
		_, e := x.PollCall(9)
		want(t, "PollCall", e, api.ErrMissing)
		ticks(t, x, 0)
		ticks(t, x, wait-1)
		wantWaiting(t, x)
		wantDue(t, x, x.Now()+1, true)
		ticks(t, x, 1)
		wantWaiting(t, x, activity(1, 1))
		wantDue(t, x, 0, false)
	}
	if x.Store().Batches() != batches {
		t.Errorf("%d batches, want %d", x.Store().Batches(), batches)
	}
	c := takes(t, x, 9)
	if c.Try != 3 {
		t.Errorf("PollCall: %+v", c)
	}
	want(t, "FailCall", x.FailCall(c.Token, "no"), api.OK)
	wantEvents(t, x, 1, 6, `6 @10 activity-failed 1 "no"`, `7 @10 task-scheduled 1`)
}

// P25.2 and P25.6: an activity that waits to be tried again isn't woken by what is written; others are. One that needn't wait waits up to the next Tick.
func TestTryAgainAtOnce(t *testing.T) {
	for first := range int64(2) {
		x := prepared(t, policy.Policy{First: first, Factor: 1})
		want(t, "FailCall", x.FailCall(takes(t, x, 9).Token, "no"), api.OK)
		starts(t, x, "v", "ears")
		wantWaiting(t, x, flow(2))
		wantDue(t, x, 2+first, true)
		ticks(t, x, int(first))
		wantWaiting(t, x, flow(2), activity(1, 1))
	}
}

// P25.6: an activity is tried any number of times.
func TestTryOften(t *testing.T) {
	x := prepared(t, policy.Policy{First: 1, Factor: 1})
	for i := range 50 {
		c := takes(t, x, 9)
		if c.Try != i+1 {
			t.Fatalf("PollCall: %+v", c)
		}
		want(t, "FailCall", x.FailCall(c.Token, "no"), api.OK)
		ticks(t, x, 1)
	}
}

// P25.6: the tries of a server that is opened anew are counted from the beginning.
func TestTriesAnew(t *testing.T) {
	d := newDisk(t, 500)
	p := programs(t, "p", calls(t, policy.Policy{Tries: 2, First: 4, Factor: 1}))
	x := open(t, d, p, 0)
	starts(t, x, "w", "p")
	does(t, x, 1)
	want(t, "FailCall", x.FailCall(takes(t, x, 9).Token, "no"), api.OK)
	wantWaiting(t, x)
	for range 2 {
		x = open(t, d, p, 0)
		wantWaiting(t, x, activity(1, 1))
		wantDue(t, x, 0, false)
		c := takes(t, x, 9)
		if c.Try != 1 {
			t.Errorf("PollCall: %+v", c)
		}
		want(t, "FailCall", x.FailCall(c.Token, "no"), api.OK)
		wantDue(t, x, 4, true)
	}
}

// P25.6: where there is no room for its end the activity is had on.
func TestFailCallWithoutRoom(t *testing.T) {
	x := open(t, newDisk(t, 34), programs(t, "p", calls(t, once)), 0)
	starts(t, x, "w", "p")
	does(t, x, 1)
	c := takes(t, x, 9)
	fill(t, x, "w")
	refused(t, x, "FailCall", func() api.Errno { return x.FailCall(c.Token, "no") }, api.ErrFull)
	refused(t, x, "CompleteCall", func() api.Errno { return x.CompleteCall(c.Token, value.Of(1)) }, api.ErrFull)
	x = open(t, newDisk(t, 34), programs(t, "p", calls(t, policy.Policy{Tries: 2, First: 4, Factor: 1})), 0)
	starts(t, x, "w", "p")
	does(t, x, 1)
	c = takes(t, x, 9)
	fill(t, x, "w")
	want(t, "FailCall", x.FailCall(c.Token, "no"), api.OK) // nothing is to be written
	wantDue(t, x, 4, true)
}
