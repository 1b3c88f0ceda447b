package history

import (
	"foliot/api"
	"foliot/event"
)

// tail is what the next event is held against: what there is to know of those ahead of it. Each step keeps its own, so that none is lost when those behind it are cut off.
type tail struct {
	count   int   // how many they are
	closed  bool  // does the last one close the run?
	outside int64 // the tick of the last one that came from outside
}

// follow: the tail behind one event more, if that may be the next one.
func (t tail) follow(e api.Event) (tail, api.Errno) {
	next := t.count + 1
	switch {
	case next > MaxEvents:
		return tail{}, api.ErrFull
	case e.ID != 0 && e.ID != next:
		return tail{}, api.ErrChain
	}
	e.ID = next
	if code := event.Check(e); code != api.OK {
		return tail{}, code
	}
	outside := event.Outside(e)
	switch {
	case t.closed:
		return tail{}, api.ErrClosed
	case (e.Kind == api.RunStarted) != (next == 1):
		return tail{}, api.ErrState
	case outside && e.Time < t.outside:
		return tail{}, api.ErrRange
	}
	behind := tail{count: next, closed: event.Closes(e), outside: t.outside}
	if outside {
		behind.outside = e.Time
	}
	return behind, api.OK
}
