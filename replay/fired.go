package replay

import "foliot/api"

// fired is the timers that fired, by their numbers.
type fired map[int64]struct{}

// note: what an event tells of timers that fired.
func (f fired) note(e api.Event) {
	if e.Kind == api.TimerFired {
		f[e.A] = struct{}{}
	}
}

// late: does a command come too late, as its timer fired ahead of it?
func (f fired) late(c api.Command) bool {
	_, over := f[c.A]
	return over && c.Kind == api.CancelTimer
}

func (f fired) clone() fired {
	c := fired{}
	for id := range f {
		c[id] = struct{}{}
	}
	return c
}
