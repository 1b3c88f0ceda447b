package engine

import (
	"foliot/api"
	"foliot/matching"
	"foliot/queue"
	"foliot/store"
	"foliot/worker"
)

// Why workflow tasks go wrong, where nobody says it.
const (
	noProgram = "no program"
	bad       = "bad"
	failed    = "failed"
)

// Task is a workflow task that a worker has.
type Task struct {
	Token uint64
	Job   worker.Job
}

// Wants: what a program wants, as a task is done: by who remembers nothing.
func Wants(t Task) (worker.Result, api.Errno) {
	w, _ := worker.New(0) // there is one without room
	return w.Do(t.Job)
}

// Poll: a worker takes a workflow task.
func (x *Engine) Poll(id int) (Task, api.Errno) {
	if x.down {
		return Task{}, api.ErrDown
	}
	l, e := x.match.Poll(id, queue.Workflow, x.now)
	if e != api.OK {
		return Task{}, e
	}
	n := l.Task.Run
	if e := x.start(n, id); e != api.OK {
		x.match.Cancel(l.Task)
		x.match.Add(l.Task, x.minds[n], x.now)
		return Task{}, e
	}
	x.minds[n] = id
	return x.give(l)
}

// start: it is written that a worker takes a run's task.
func (x *Engine) start(n, id int) api.Errno {
	list, e := x.runs[n].Start(int64(id))
	if e != api.OK {
		return e
	}
	return x.add(n, list)
}

// give: the task that a worker has taken. One without a program has gone wrong.
func (x *Engine) give(l matching.Lease) (Task, api.Errno) {
	n := l.Task.Run
	p, ok := x.programs.find(x.runs[n].Program())
	if !ok {
		x.match.Cancel(l.Task) // even if that can't be written nobody has it: then a Tick finds it
		if e := x.retry(n, noProgram); e != api.OK {
			return Task{}, e
		}
		return Task{}, api.ErrOther
	}
	return Task{Token: l.Token, Job: worker.Job{Run: n, Image: p.Image(), Events: x.store.All(n)}}, api.OK
}

// had: the task of a kind that somebody has by a token.
func (x *Engine) had(token uint64, kind int) (queue.Task, api.Errno) {
	l, e := x.match.Get(token, x.now)
	if e == api.OK && l.Task.Kind != kind {
		return queue.Task{}, api.ErrToken
	}
	return l.Task, e
}

// Complete: a workflow task is done: what its program wants is written. What may not be makes it go wrong.
func (x *Engine) Complete(token uint64, more bool, list ...api.Command) api.Errno {
	if x.down {
		return api.ErrDown
	}
	t, e := x.had(token, queue.Workflow)
	if e != api.OK {
		return e
	}
	events, e := x.runs[t.Run].Complete(int64(x.store.Next()), more, list...)
	if e != api.OK {
		if code := x.retry(t.Run, bad); code != api.OK {
			return code
		}
		return e
	}
	changes := []store.Change{{Kind: store.Append, Run: t.Run, Events: events}}
	if last := len(list) - 1; last >= 0 && list[last].Kind == api.Again {
		c, e := x.goOn(t.Run, list[last].Value)
		if e != api.OK {
			return e
		}
		changes = append(changes, c)
	}
	return x.write(changes...)
}

// goOn: the change by which a run goes on as a new one, with a value.
func (x *Engine) goOn(n int, v api.Value) (store.Change, api.Errno) {
	info, _ := x.store.Info(n) // it is there: a worker has its task
	first := x.next(n)
	first.Value = v
	return x.beginning(info.Name, first)
}

// Fail: a workflow task went wrong.
func (x *Engine) Fail(token uint64, why string) api.Errno {
	if x.down {
		return api.ErrDown
	}
	t, e := x.had(token, queue.Workflow)
	if e != api.OK {
		return e
	}
	if why == "" {
		why = failed
	}
	return x.retry(t.Run, why)
}
