package engine

import (
	"cmp"
	"slices"

	"foliot/api"
	"foliot/event"
	"foliot/policy"
	"foliot/queue"
)

// The states of an activity that was tried.
const (
	free  = iota // it waits for anybody, or somebody has it
	waits        // it isn't tried again ahead of its tick
	lost         // who had it has it no more, but that isn't told yet
)

// tries is what is known of an activity that was tried: no history tells that.
type tries struct {
	count int
	state int
	at    int64 // the tick, of one that waits
}

// Call is an activity that a worker has.
type Call struct {
	Token uint64
	Run   int
	ID    int64
	Name  string
	Input api.Value
	Try   int // from 1 on
}

// PollCall: a worker takes an activity.
func (x *Engine) PollCall(id int) (Call, api.Errno) {
	if x.down {
		return Call{}, api.ErrDown
	}
	l, e := x.match.Poll(id, queue.Activity, x.now)
	if e != api.OK {
		return Call{}, e
	}
	t := l.Task
	a, _ := x.runs[t.Run].Activity(t.ID) // those alone that are open wait
	try := x.tries[t].count + 1
	x.tries[t] = tries{count: try}
	return Call{Token: l.Token, Run: t.Run, ID: t.ID, Name: a.Name, Input: a.Input, Try: try}, api.OK
}

// CompleteCall: an activity is done, with a result.
func (x *Engine) CompleteCall(token uint64, result api.Value) api.Errno {
	if x.down {
		return api.ErrDown
	}
	t, e := x.had(token, queue.Activity)
	if e != api.OK {
		return e
	}
	return x.outside(t.Run, api.Event{Time: x.now, Kind: api.ActivityCompleted, A: t.ID, Value: result})
}

// FailCall: a try of an activity went wrong: it is tried again, or is over.
func (x *Engine) FailCall(token uint64, why string) api.Errno {
	if x.down {
		return api.ErrDown
	}
	t, e := x.had(token, queue.Activity)
	if e != api.OK {
		return e
	}
	if len(why) > event.MaxName {
		return api.ErrLong
	}
	return x.loseCall(t, api.Event{Kind: api.ActivityFailed, Name: why})
}

// loseCall: a try of an activity is lost: it is tried again, or is over with an event.
func (x *Engine) loseCall(t queue.Task, e api.Event) api.Errno {
	count := x.tries[t].count
	if at, ok := x.policy(t).Again(count, x.now); ok {
		x.match.Cancel(t)
		x.tries[t] = tries{count: count, state: waits, at: at}
		return api.OK
	}
	e.Time, e.A = x.now, t.ID
	return x.outside(t.Run, e)
}

// policy: how an activity is tried.
func (x *Engine) policy(t queue.Task) policy.Policy {
	a, _ := x.runs[t.Run].Activity(t.ID)
	return policy.Of(a.Policy)
}

// tried: the activities that were tried, and of which something holds, by their runs and numbers.
func (x *Engine) tried(holds func(tries) bool) []queue.Task {
	var list []queue.Task
	for t, c := range x.tries {
		if holds(c) {
			list = append(list, t)
		}
	}
	slices.SortFunc(list, func(a, b queue.Task) int {
		return cmp.Or(cmp.Compare(a.Run, b.Run), cmp.Compare(a.ID, b.ID))
	})
	return list
}
