package matching

import (
	"slices"

	"foliot/api"
	"foliot/queue"
)

// byToken: is a lease that of a token?
func byToken(token uint64) func(Lease) bool {
	return func(l Lease) bool { return l.Token == token }
}

// ofTask: is a lease that of a task?
func ofTask(t queue.Task) func(Lease) bool {
	return func(l Lease) bool { return l.Task == t }
}

// end: those leases of which something holds are had no more: these, in order.
func (m *Match) end(holds func(Lease) bool) []Lease {
	var ended, rest []Lease
	for _, l := range m.leases {
		if holds(l) {
			ended = append(ended, l)
		} else {
			rest = append(rest, l)
		}
	}
	m.leases = rest
	return ended
}

// Get: the task that somebody has by a token, as long as they may.
func (m *Match) Get(token uint64, now int64) (Lease, api.Errno) {
	i := slices.IndexFunc(m.leases, byToken(token))
	if i < 0 || m.leases[i].Until <= now {
		return Lease{}, api.ErrToken
	}
	return m.leases[i], api.OK
}

// Done: somebody has a task no more.
func (m *Match) Done(token uint64) bool { return len(m.end(byToken(token))) > 0 }

// Leases: the tasks that somebody has, in the order in which they were taken.
func (m *Match) Leases() []Lease { return slices.Clone(m.leases) }
