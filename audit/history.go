package audit

import (
	"slices"

	"foliot/api"
	"foliot/history"
	"foliot/store"
)

// Timers: does each timer of a history end once at most, and fire no earlier than it is due?
func Timers(list ...api.Event) api.Errno {
	return once(list, api.TimerStarted, api.TimerFired, api.TimerCanceled)
}

// Activities: does each activity of a history end once at most?
func Activities(list ...api.Event) api.Errno {
	return once(list, api.ActivityScheduled, api.ActivityCompleted, api.ActivityFailed, api.ActivityTimedOut)
}

// once: does each thing, which begins by an event of a kind, and ends by one of some kinds, do so once at most?
func once(list []api.Event, begins int, ends ...int) api.Errno {
	all := things{}
	for _, e := range list {
		code := api.OK
		switch {
		case e.Kind == begins:
			code = all.begin(e)
		case slices.Contains(ends, e.Kind):
			code = all.end(e)
		}
		if code != api.OK {
			return code
		}
	}
	return api.OK
}

// thing is a timer or an activity that has begun.
type thing struct {
	due  int64 // a timer's tick; of an activity it doesn't count
	over bool
}

// things are all of one sort, by their numbers.
type things map[int64]thing

func (t things) begin(e api.Event) api.Errno {
	if _, ok := t[e.A]; ok {
		return api.ErrTwice
	}
	t[e.A] = thing{due: e.B}
	return api.OK
}

func (t things) end(e api.Event) api.Errno {
	x, ok := t[e.A]
	switch {
	case !ok:
		return api.ErrMissing
	case x.over:
		return api.ErrClosed
	case e.Kind == api.TimerFired && e.Time < x.due:
		return api.ErrRange
	}
	t[e.A] = thing{over: true}
	return api.OK
}

// turns is how many events of a task there are: it is scheduled, is started, and ends.
const turns = 3

// Tasks: do the tasks of a history follow one another as they should?
func Tasks(list ...api.Event) api.Errno {
	next := 0
	for _, e := range list {
		n, ok := turn(e)
		if !ok {
			continue
		}
		if n != next {
			return api.ErrState
		}
		next = (next + 1) % turns
	}
	return api.OK
}

// turn: which of a task's events one is; false: none.
func turn(e api.Event) (int, bool) {
	switch e.Kind {
	case api.TaskScheduled:
		return 0, true
	case api.TaskStarted:
		return 1, true
	case api.TaskCompleted, api.TaskTimedOut, api.TaskFailed:
		return 2, true
	}
	return 0, false
}

// Chain: is a run's chain of sums that of its events?
func Chain(s *store.Store, n int) api.Errno {
	info, e := s.Info(n)
	if e != api.OK {
		return e
	}
	last, _ := s.Sum(n)
	return history.Verify(history.Seed(info.Name, n), last, s.All(n)...)
}
