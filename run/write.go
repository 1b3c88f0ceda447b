package run

import (
	"foliot/api"
	"foliot/command"
	"foliot/event"
	"foliot/value"
)

// mostTries is the number of the last try of a task: further ones have it, too.
const mostTries = 1<<40 + 1

// draft is events that are written behind a history, and what would be known of the run behind them.
type draft struct {
	book
	events []api.Event
	code   api.Errno // why the first one that may not follow doesn't
}

// write: an event more, if it and all ahead of it may follow.
func (d *draft) write(e api.Event) {
	if d.code == api.OK {
		d.code = d.check(e)
	}
	if d.code != api.OK {
		return
	}
	d.add(e)
	e.ID = d.count
	e.Value = value.Clone(e.Value)
	d.events = append(d.events, e)
}

// write: what is written, if these events happen: they, and a task, if one is to be.
func (s *State) write(list ...api.Event) ([]api.Event, api.Errno) {
	d := draft{book: s.clone()}
	for _, e := range list {
		d.write(e)
	}
	if d.task.state == None && d.unseen() {
		d.write(api.Event{Kind: api.TaskScheduled, Time: d.tick, B: 1})
	}
	if d.code != api.OK {
		return nil, d.code
	}
	return d.events, api.OK
}

// Outside: what is written as an event comes from outside: it, and a task, if there is none.
func (s *State) Outside(e api.Event) ([]api.Event, api.Errno) {
	if !event.Outside(e) {
		return nil, api.ErrKind
	}
	return s.write(e)
}

// Start: what is written as a worker takes the task.
func (s *State) Start(worker int64) ([]api.Event, api.Errno) {
	return s.write(api.Event{Kind: api.TaskStarted, Time: s.tick, A: max(worker, 0), B: s.task.attempt})
}

// Retry: what is written as a task was lost (why is empty), or went wrong: that, and the next try.
func (s *State) Retry(why string) ([]api.Event, api.Errno) {
	lost := api.Event{Kind: api.TaskTimedOut, Time: s.tick, B: s.task.attempt}
	if why != "" {
		lost.Kind, lost.Name = api.TaskFailed, why
	}
	try := min(s.task.attempt, mostTries-1) + 1
	return s.write(lost, api.Event{Kind: api.TaskScheduled, Time: s.tick, B: try})
}

// Complete: what is written as a task is completed: that, what its commands come to (but what came too late), and a task, if something came meanwhile, or more is to come. The next run has a number.
func (s *State) Complete(next int64, more bool, list ...api.Command) ([]api.Event, api.Errno) {
	if code := command.All(list...); code != api.OK {
		return nil, code
	}
	done := api.Event{Kind: api.TaskCompleted, Time: s.tick, A: int64(len(list))}
	if more {
		done.B = 1
	}
	events := []api.Event{done}
	for _, c := range list {
		if s.late(c) {
			continue
		}
		e := command.Event(c)
		if e.Kind == api.ContinuedAsNew {
			e.B = max(next, 0)
		}
		events = append(events, e)
	}
	return s.write(events...)
}

// late: does a command come too late, as its timer has fired?
func (s *State) late(c api.Command) bool {
	_, fired := s.fired[c.A]
	return c.Kind == api.CancelTimer && fired
}
