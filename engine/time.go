package engine

import (
	"maps"

	"foliot/api"
	"foliot/cron"
	"foliot/event"
	"foliot/matching"
	"foliot/queue"
	"foliot/run"
	"foliot/store"
)

// Lose: a worker is gone: what it had is lost; what waited for it waits for anybody.
func (x *Engine) Lose(id int) api.Errno {
	if x.down {
		return api.ErrDown
	}
	maps.DeleteFunc(x.minds, func(_, worker int) bool { return worker == id })
	code := api.OK
	for _, t := range x.ended(x.match.Lose(id, x.now)) {
		switch x.lose(t) {
		case api.ErrDown:
			return api.ErrDown
		case api.ErrFull:
			code = api.ErrFull
		}
	}
	return code
}

// ended: the tasks that nobody has any more. Of the activities that is kept until it is told: for that there may be no room.
func (x *Engine) ended(list []matching.Lease) []queue.Task {
	var tasks []queue.Task
	for _, l := range list {
		if l.Task.Kind == queue.Activity {
			x.tries[l.Task] = tries{count: x.tries[l.Task].count, state: lost}
		}
		tasks = append(tasks, l.Task)
	}
	return tasks
}

// lose: nobody does a task in time.
func (x *Engine) lose(t queue.Task) api.Errno {
	if t.Kind == queue.Workflow {
		return x.retry(t.Run, "")
	}
	return x.loseCall(t, api.Event{Kind: api.ActivityTimedOut})
}

// loseAll: nobody does tasks in time, up to where that can't be told.
func (x *Engine) loseAll(list []queue.Task) api.Errno {
	for _, t := range list {
		if e := x.lose(t); e != api.OK {
			return e
		}
	}
	return api.OK
}

// Tick: so many ticks pass: what is due happens, in order. If there is no room for something it is still due, and the next tick tries it again.
func (x *Engine) Tick(ticks int) api.Errno {
	if x.down {
		return api.ErrDown
	}
	if ticks < 0 || ticks > MaxTicks || int64(ticks) > event.MaxTime-x.now {
		return api.ErrRange
	}
	x.now += int64(ticks)
	for _, step := range []func() api.Errno{x.fire, x.loseLate, x.expire, x.findLost, x.tryAgain, x.beginAgain} {
		if e := step(); e != api.OK {
			return e
		}
	}
	return api.OK
}

// fire: timers fire, and runs time out.
func (x *Engine) fire() api.Errno {
	for _, f := range x.timers.Fires(x.now) {
		if e := x.outside(f.Run, f.Event); e != api.OK {
			return e
		}
	}
	return api.OK
}

// loseLate: tries of activities are lost that took too long; first those of which that couldn't be told yet.
func (x *Engine) loseLate() api.Errno {
	list := x.tried(func(c tries) bool { return c.state == lost })
	for _, l := range x.match.Leases() {
		if l.Task.Kind == queue.Activity {
			if due, ok := x.policy(l.Task).Due(l.Until - matching.LeaseTime); ok && due <= x.now {
				list = append(list, l.Task)
			}
		}
	}
	return x.loseAll(list)
}

// expire: tasks are lost that somebody had for too long.
func (x *Engine) expire() api.Errno { return x.loseAll(x.ended(x.match.Expire(x.now))) }

// findLost: workflow tasks are lost that were taken, and that nobody has, as the server was opened anew.
func (x *Engine) findLost() api.Errno {
	for _, n := range x.open() {
		if !x.isTask(n, run.Started) || x.match.Known(flow(n)) {
			continue
		}
		if e := x.retry(n, ""); e != api.OK {
			return e
		}
	}
	return api.OK
}

// tryAgain: activities that waited for their tick wait for anybody.
func (x *Engine) tryAgain() api.Errno {
	for _, t := range x.tried(func(c tries) bool { return c.state == waits && c.at <= x.now }) {
		x.tries[t] = tries{count: x.tries[t].count}
		x.match.Add(t, anybody, x.now) // where there is no room a later write lets it wait
	}
	return api.OK
}

// beginAgain: workflows begin again.
func (x *Engine) beginAgain() api.Errno {
	for _, info := range x.store.Runs() {
		if due, ok := x.again(info); !ok || due > x.now {
			continue
		}
		if _, e := x.begin(info.Name, x.next(info.Run)); e != api.OK {
			return e
		}
	}
	return api.OK
}

// again: when a workflow begins again behind a run; false: it doesn't.
func (x *Engine) again(info store.Info) (int64, bool) {
	text := x.runs[info.Run].Cron()
	if text == "" || !info.Closed || x.store.Find(info.Name) != info.Run {
		return 0, false
	}
	switch x.event(info.Run, info.Len).Kind {
	case api.RunCanceled, api.RunTerminated, api.ContinuedAsNew:
		return 0, false
	}
	spec, e := cron.Parse(text)
	if e != api.OK {
		return 0, false
	}
	due, e := spec.Next(x.heard(info))
	return due, e == api.OK
}

// heard: the tick of the last event of a run that came from outside.
func (x *Engine) heard(info store.Info) int64 {
	id := info.Len
	for id > 1 && !event.Outside(x.event(info.Run, id)) {
		id--
	}
	return x.event(info.Run, id).Time
}

// Due: when something happens by itself next: a timer, a deadline, an activity that is tried again, a workflow that begins again; false: nothing does.
func (x *Engine) Due() (int64, bool) {
	least, some := x.timers.Next()
	note := func(due int64) {
		if !some || due < least {
			least, some = due, true
		}
	}
	for _, c := range x.tries {
		if c.state == waits {
			note(c.at)
		}
	}
	for _, info := range x.store.Runs() {
		if due, ok := x.again(info); ok {
			note(due)
		}
	}
	return least, some
}
