package replay

import (
	"foliot/api"
	"foliot/command"
	"foliot/event"
)

// Outside: the events of a history that came from outside, in order.
func Outside(list ...api.Event) []api.Event { return only(event.Outside, list) }

// Made: the events of a history that were written of commands, in order.
func Made(list ...api.Event) []api.Event { return only(command.Made, list) }

// only: the events that are so, in memory of their own.
func only(so func(e api.Event) bool, list []api.Event) []api.Event {
	var some []api.Event
	for _, e := range list {
		if so(e) {
			some = append(some, clone(e))
		}
	}
	return some
}

// clone: an event that isn't bookkeeping, in memory of its own.
func clone(e api.Event) api.Event {
	c := event.Erase(e)[0]
	c.ID = e.ID
	return c
}

// Settle: what a program over events from outside comes to: what is written of its commands, if each is as soon as it is made.
func Settle(p api.Image, outside ...api.Event) ([]api.Event, api.Errno) {
	r, e := New(p)
	if e != api.OK {
		return nil, e
	}
	for _, e := range outside {
		r.hear(e)
	}
	var list []api.Event
	for _, c := range r.Pending() {
		list = append(list, command.Event(c))
	}
	return list, api.OK
}
