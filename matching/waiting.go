package matching

import (
	"foliot/api"
	"foliot/queue"
)

// Where: who a task waits for: 0: anybody; false: it doesn't wait.
func (m *Match) Where(t queue.Task) (int, bool) {
	for worker := range m.queues {
		if m.queues[worker].Has(t) {
			return worker, true
		}
	}
	return 0, false
}

// Waiting: the tasks that wait: first those that wait for anybody, then worker by worker.
func (m *Match) Waiting() []queue.Task {
	var list []queue.Task
	for worker := range m.queues {
		list = append(list, m.queues[worker].List()...)
	}
	return list
}

// first: the first task of a kind that waits for a worker, or (0) for anybody; false: none does.
func (m *Match) first(worker, kind int) (queue.Task, bool) {
	for _, t := range m.queues[worker].List() {
		if t.Kind == kind {
			return t, true
		}
	}
	return queue.Task{}, false
}

// take: the first task of a kind that waits for a worker waits no more; false: none does.
func (m *Match) take(worker, kind int) (queue.Task, bool) {
	t, ok := m.first(worker, kind)
	return t, ok && m.queues[worker].Remove(t)
}

// free: a task that waits for a worker waits for anybody, if there is room; else it stays.
func (m *Match) free(t queue.Task, worker int, now int64) {
	if m.queues[anybody].Add(t, now) == api.OK {
		m.queues[worker].Remove(t)
	}
}

// stuck: the tasks that waited for a worker for too long.
func (m *Match) stuck(worker int, now int64) []queue.Task {
	var list []queue.Task
	for _, t := range m.queues[worker].List() {
		if since, _ := m.queues[worker].Since(t); waited(since, now) {
			list = append(list, t)
		}
	}
	return list
}

// waited: is a tick behind another one by StickyWait or more? They may be further apart than an int64 tells.
func waited(since, now int64) bool {
	return since <= now && uint64(now)-uint64(since) >= StickyWait
}
