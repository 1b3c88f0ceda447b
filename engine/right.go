package engine

import (
	"slices"

	"foliot/api"
	"foliot/run"
	"foliot/timers"
	"foliot/value"
)

// Right: is all that is known just what the histories say?
func (x *Engine) Right() bool {
	histories := x.store.Histories()
	q, e := timers.Of(histories)
	if e != api.OK || !timers.Same(q, x.timers) {
		return false
	}
	runs, e := statesOf(histories)
	if e != api.OK || len(runs) != len(x.runs) {
		return false
	}
	for n, s := range runs {
		if known := x.runs[n]; known == nil || !same(known, s) {
			return false
		}
	}
	return true
}

// same: is the same known of two runs?
func same(a, b *run.State) bool {
	return a.Len() == b.Len() && a.Program() == b.Program() && a.Cron() == b.Cron() &&
		a.Closed() == b.Closed() && a.Asked() == b.Asked() && a.Signals() == b.Signals() &&
		taskOf(a) == taskOf(b) && a.Seen() == b.Seen() && a.Unseen() == b.Unseen() &&
		slices.Equal(timersOf(a), timersOf(b)) && slices.EqualFunc(a.Activities(), b.Activities(), sameActivity)
}

// taskOf: a run's task, as numbers.
func taskOf(s *run.State) [3]int64 {
	state, attempt, worker := s.Task()
	return [3]int64{int64(state), attempt, worker}
}

// timersOf: a run's timers that are open, and when they are due.
func timersOf(s *run.State) [][2]int64 {
	var list [][2]int64
	for _, id := range s.Timers() {
		due, _ := s.Due(id)
		list = append(list, [2]int64{id, due})
	}
	return list
}

func sameActivity(a, b run.Activity) bool {
	return a.ID == b.ID && a.Name == b.Name && a.Policy == b.Policy && value.Same(a.Input, b.Input) && a.Since == b.Since
}
