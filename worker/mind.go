package worker

import (
	"bytes"
	"slices"

	"foliot/api"
	"foliot/event"
	"foliot/replay"
	"foliot/value"
)

// mind is a run that is remembered, with its program and how far that came.
type mind struct {
	run   int
	image []byte
	last  api.Event // the last one that was read, if any was
	play  *replay.Replayer
}

// newMind: a job's run, of which nothing was read yet.
func newMind(j Job, program []byte) (mind, api.Errno) {
	play, e := replay.New(j.Image)
	return mind{run: j.Run, image: program, play: play}, e
}

// fits: is a job one of which this was the beginning?
func (m mind) fits(j Job, program []byte) bool {
	n := m.play.Seen()
	return bytes.Equal(m.image, program) && n <= len(j.Events) && (n == 0 || event.Same(m.last, j.Events[n-1]))
}

// read: of a history the events that weren't read yet.
func (m *mind) read(list []api.Event) api.Errno {
	rest := list[m.play.Seen():]
	if len(rest) == 0 {
		return api.OK
	}
	e := m.play.Feed(rest...)
	m.last = rest[len(rest)-1]
	m.last.Value = value.Clone(m.last.Value)
	return e
}

// ofRun: is something remembered of a run?
func ofRun(run int) func(mind) bool {
	return func(m mind) bool { return m.run == run }
}

// find: what is remembered of a job's run; false: nothing that goes on so.
func (w *Worker) find(j Job, program []byte) (mind, bool) {
	i := slices.IndexFunc(w.runs, ofRun(j.Run))
	if i < 0 || !w.runs[i].fits(j, program) {
		return mind{}, false
	}
	return w.runs[i], true
}

// remember: a run was done last; there may be no room for the one that was done longest ago.
func (w *Worker) remember(m mind) {
	w.Evict(m.run)
	w.runs = append(w.runs, m)
	if len(w.runs) > w.room {
		w.runs = slices.Delete(w.runs, 0, 1)
	}
}

// Cached: the runs that it remembers, the one that was done last at the end.
func (w *Worker) Cached() []int {
	var list []int
	for _, m := range w.runs {
		list = append(list, m.run)
	}
	return list
}

// Evict: a run isn't remembered any more; false: it wasn't.
func (w *Worker) Evict(run int) bool {
	n := len(w.runs)
	w.runs = slices.DeleteFunc(w.runs, ofRun(run))
	return len(w.runs) < n
}

// Clear: none is any more.
func (w *Worker) Clear() { w.runs = nil }
