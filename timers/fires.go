package timers

import (
	"cmp"
	"slices"

	"foliot/api"
	"foliot/heap"
)

// Fire is what is to be written as something is due.
type Fire struct {
	Run   int
	Event api.Event
}

// order: how two things stand, by when they are due, then by the run, the kind and the number.
func order(a, b heap.Item) int {
	return cmp.Or(
		cmp.Compare(a.Due, b.Due),
		cmp.Compare(a.Run, b.Run),
		cmp.Compare(a.Kind, b.Kind),
		cmp.Compare(a.ID, b.ID),
	)
}

// sorted: a list of nobody else's, in order.
func sorted(list []heap.Item) []heap.Item {
	slices.SortFunc(list, order)
	return list
}

// Fires: what is to be written, at a tick, of all that is due then, in order; behind a run's end nothing more of it is.
func (q *Queue) Fires(now int64) []Fire {
	var list []Fire
	over := map[int]struct{}{}
	for _, it := range sorted(q.Due(now)) {
		if _, ok := over[it.Run]; ok {
			continue
		}
		switch it.Kind {
		case Timer:
			list = append(list, Fire{it.Run, api.Event{Time: now, Kind: api.TimerFired, A: it.ID}})
		case Deadline:
			list = append(list, Fire{it.Run, api.Event{Time: now, Kind: api.RunTimedOut}})
			over[it.Run] = struct{}{}
		}
	}
	return list
}
