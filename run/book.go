package run

import (
	"maps"

	"foliot/api"
	"foliot/event"
)

// task is what is known of a run's workflow tasks.
type task struct {
	state   int
	attempt int64 // the B of the last task-scheduled
	worker  int64 // the A of the last task-started
	started int   // its number
	seen    int   // that of the task-started ahead of the last task-completed
	more    bool  // did that task-completed say that there is more to come?
}

// in: is the task in that state, as it has to be?
func (t task) in(state int) api.Errno {
	if t.state != state {
		return api.ErrState
	}
	return api.OK
}

// book is what the next event of a run is held against. The zero one has no history yet.
type book struct {
	count      int   // how many events there are
	closed     bool  // does the last one close the run?
	outside    int   // the number of the last one that came from outside
	tick       int64 // its tick
	signals    int
	task       task
	timers     map[int64]int64    // those that are open: when they are due
	activities map[int64]Activity // those that are open
	timer      int64              // the last timer's number
	activity   int64              // the last activity's
}

// clone: the same, in maps of its own.
func (b *book) clone() book {
	c := *b
	c.timers, c.activities = maps.Clone(b.timers), maps.Clone(b.activities)
	return c
}

// unseen: is there something for a task to see, or to commit?
func (b *book) unseen() bool {
	return !b.closed && (b.outside > b.task.seen || b.task.more)
}

// check: may an event follow?
func (b *book) check(e api.Event) api.Errno {
	next := b.count + 1
	if e.ID != 0 && e.ID != next {
		return api.ErrChain
	}
	e.ID = next
	if code := event.Check(e); code != api.OK {
		return code
	}
	switch {
	case b.closed:
		return api.ErrClosed
	case (e.Kind == api.RunStarted) != (next == 1):
		return api.ErrState
	case event.Outside(e) && e.Time < b.tick:
		return api.ErrRange
	}
	return b.checkKind(e)
}

// checkKind: may an event follow, as far as that hangs on its kind?
func (b *book) checkKind(e api.Event) api.Errno {
	switch e.Kind {
	case api.TaskScheduled:
		return b.task.in(None)
	case api.TaskStarted:
		return b.task.in(Scheduled)
	case api.TaskCompleted, api.TaskTimedOut, api.TaskFailed:
		return b.task.in(Started)
	case api.TimerStarted:
		return b.checkNew(e.A, b.timer)
	case api.ActivityScheduled:
		return b.checkNew(e.A, b.activity)
	case api.TimerFired, api.TimerCanceled:
		return b.checkTimer(e)
	case api.ActivityCompleted, api.ActivityFailed, api.ActivityTimedOut:
		if _, ok := b.activities[e.A]; !ok {
			return api.ErrMissing
		}
	case api.SignalReceived:
		if b.signals >= MaxSignals {
			return api.ErrFull
		}
	}
	return api.OK
}

// checkNew: may a timer or an activity of that number be opened behind the last one's?
func (b *book) checkNew(id, last int64) api.Errno {
	switch {
	case id <= last:
		return api.ErrTwice
	case id > last+1:
		return api.ErrRange
	case len(b.timers)+len(b.activities) >= MaxOpen:
		return api.ErrFull
	}
	return api.OK
}

// checkTimer: may a timer end by an event?
func (b *book) checkTimer(e api.Event) api.Errno {
	due, ok := b.timers[e.A]
	switch {
	case !ok:
		return api.ErrMissing
	case e.Kind == api.TimerFired && e.Time < due:
		return api.ErrRange
	}
	return api.OK
}

// add: an event that may follow does.
func (b *book) add(e api.Event) {
	b.count++
	b.closed = event.Closes(e)
	if event.Outside(e) {
		b.outside, b.tick = b.count, e.Time
	}
	switch e.Kind {
	case api.RunStarted:
		b.timers, b.activities = map[int64]int64{}, map[int64]Activity{}
	case api.TaskScheduled:
		b.task.state, b.task.attempt = Scheduled, e.B
	case api.TaskStarted:
		b.task.state, b.task.worker, b.task.started = Started, e.A, b.count
	case api.TaskCompleted:
		b.task.state, b.task.seen, b.task.more = None, b.task.started, e.B > 0
	case api.TaskTimedOut, api.TaskFailed:
		b.task.state = None
	case api.TimerStarted:
		b.timers[e.A], b.timer = e.B, e.A
	case api.TimerFired, api.TimerCanceled:
		delete(b.timers, e.A)
	case api.ActivityScheduled:
		a := Activity{ID: e.A, Name: e.Name, Policy: e.B, Input: e.Value, Since: e.Time}
		b.activities[e.A], b.activity = a.clone(), e.A
	case api.ActivityCompleted, api.ActivityFailed, api.ActivityTimedOut:
		delete(b.activities, e.A)
	case api.SignalReceived:
		b.signals++
	}
}
