package engine

import (
	"maps"
	"slices"

	"foliot/api"
	"foliot/event"
	"foliot/heap"
	"foliot/queue"
	"foliot/run"
	"foliot/store"
)

// anybody is the number of the worker who is none in particular.
const anybody = 0

// flow, activity: a run's workflow task, and its activity of a number.
func flow(n int) queue.Task { return queue.Task{Run: n, Kind: queue.Workflow} }

func activity(n int, id int64) queue.Task {
	return queue.Task{Run: n, Kind: queue.Activity, ID: id}
}

// write: changes are made durable, all or none; what is known follows them, and tasks wait for workers.
func (x *Engine) write(list ...store.Change) api.Errno {
	if !x.hasRoom(list) {
		return api.ErrFull
	}
	next := x.store.Next()
	codes, e := x.store.Write(list)
	if e == api.ErrDown {
		x.down = true
	}
	if e != api.OK {
		return e
	}
	if codes[0] != api.OK {
		return codes[0]
	}
	for _, c := range list {
		x.follow(c, next)
	}
	x.wake()
	return api.OK
}

// hasRoom: would all that is due by changes find room? The histories say what is due, so what finds none may not be written.
func (x *Engine) hasRoom(list []store.Change) bool {
	n := x.timers.Len()
	for _, c := range list {
		for _, e := range c.Events {
			switch {
			case event.Closes(e):
				return true // a run that goes on in the next one leaves room for that
			case e.Kind == api.TimerStarted, e.Kind == api.RunStarted && e.A > 0:
				n++
			case e.Kind == api.TimerFired, e.Kind == api.TimerCanceled:
				n--
			}
			if n > heap.MaxItems {
				return false
			}
		}
	}
	return true
}

// follow: a change was made; a new run has the number that was next.
func (x *Engine) follow(c store.Change, next int) {
	n := c.Run
	switch c.Kind {
	case store.Begin:
		n = next
		x.runs[n] = &run.State{}
	case store.Delete:
		delete(x.runs, n)
	}
	for _, e := range c.Events {
		x.runs[n].Apply(e)
		x.timers.Apply(n, e)
		x.end(n, e)
	}
}

// end: what an event of a run ends is nobody's task any more.
func (x *Engine) end(n int, e api.Event) {
	switch e.Kind {
	case api.TaskCompleted, api.TaskTimedOut, api.TaskFailed:
		x.match.Cancel(flow(n))
	case api.ActivityCompleted, api.ActivityFailed, api.ActivityTimedOut:
		t := activity(n, e.A)
		x.match.Cancel(t)
		delete(x.tries, t)
	}
	if event.Closes(e) {
		x.match.Drop(n)
		delete(x.minds, n)
		maps.DeleteFunc(x.tries, func(t queue.Task, _ tries) bool { return t.Run == n })
	}
}

// open: the runs that are open, by their numbers.
func (x *Engine) open() []int {
	return slices.DeleteFunc(slices.Sorted(maps.Keys(x.runs)), func(n int) bool { return x.runs[n].Closed() })
}

// wake: what workers are to do waits for them, as far as there is room.
func (x *Engine) wake() {
	for _, n := range x.open() {
		s := x.runs[n]
		if x.isTask(n, run.Scheduled) {
			x.match.Add(flow(n), x.minds[n], x.now)
		}
		for _, a := range s.Activities() {
			if t := activity(n, a.ID); x.tries[t].state != waits {
				x.match.Add(t, anybody, x.now)
			}
		}
	}
}

// isTask: is a run's workflow task in a state?
func (x *Engine) isTask(n, state int) bool {
	is, _, _ := x.runs[n].Task()
	return is == state
}

// add: events of a run are written.
func (x *Engine) add(n int, list []api.Event) api.Errno {
	return x.write(store.Change{Kind: store.Append, Run: n, Events: list})
}

// outside: an event of a run that comes from outside is written.
func (x *Engine) outside(n int, e api.Event) api.Errno {
	list, code := x.runs[n].Outside(e)
	if code != api.OK {
		return code
	}
	return x.add(n, list)
}

// retry: a workflow task was lost (why is empty), or went wrong.
func (x *Engine) retry(n int, why string) api.Errno {
	list, e := x.runs[n].Retry(why)
	if e != api.OK {
		return e
	}
	return x.add(n, list)
}
