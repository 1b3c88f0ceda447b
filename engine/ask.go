package engine

import (
	"foliot/api"
	"foliot/cron"
	"foliot/run"
	"foliot/store"
	"foliot/worker"
)

// Start: a workflow's run begins, of a program, with an input; it has so many ticks (0: any), and begins again and again, if that is told: its number.
func (x *Engine) Start(name, program string, input api.Value, ticks int64, again string) (int, api.Errno) {
	if x.down {
		return 0, api.ErrDown
	}
	if _, ok := x.programs.find(program); !ok {
		return 0, api.ErrMissing
	}
	if again != "" {
		if _, e := cron.Parse(again); e != api.OK {
			return 0, e
		}
	}
	if n := x.store.Find(name); n != 0 && !x.runs[n].Closed() {
		return 0, api.ErrBusy
	}
	return x.begin(name, api.Event{Kind: api.RunStarted, A: ticks, Name: program, Text: again, Value: input})
}

// begin: a run of a workflow begins now, by an event: its number.
func (x *Engine) begin(name string, e api.Event) (int, api.Errno) {
	n := x.store.Next()
	c, code := x.beginning(name, e)
	if code == api.OK {
		code = x.write(c)
	}
	if code != api.OK {
		return 0, code
	}
	return n, api.OK
}

// beginning: the change by which a run of a workflow begins now.
func (x *Engine) beginning(name string, e api.Event) (store.Change, api.Errno) {
	e.Time = x.now
	list, code := new(run.State).Outside(e)
	return store.Change{Kind: store.Begin, Name: name, Events: list}, code
}

// next: what the workflow's next run begins with, behind a run.
func (x *Engine) next(n int) api.Event {
	e := x.event(n, 1)
	e.B = int64(n)
	return e
}

// event: a run's event of a number.
func (x *Engine) event(n, id int) api.Event {
	list, _ := x.store.Page(n, id, 1) // it is asked for those alone that are there
	return list[0]
}

// Signal, Cancel, Terminate: a workflow's last run gets a signal, is asked to end, or ends.
func (x *Engine) Signal(name, signal string, v api.Value) api.Errno {
	return x.send(name, api.Event{Kind: api.SignalReceived, Name: signal, Value: v})
}

func (x *Engine) Cancel(name string) api.Errno {
	return x.send(name, api.Event{Kind: api.CancelRequested})
}

func (x *Engine) Terminate(name, why string) api.Errno {
	return x.send(name, api.Event{Kind: api.RunTerminated, Name: why})
}

// send: an event comes now, for a workflow's last run.
func (x *Engine) send(name string, e api.Event) api.Errno {
	if x.down {
		return api.ErrDown
	}
	n := x.store.Find(name)
	if n == 0 {
		return api.ErrMissing
	}
	e.Time = x.now
	return x.outside(n, e)
}

// Query: what the program of a workflow's last run waits for.
func (x *Engine) Query(name string) (worker.Answer, api.Errno) {
	n := x.store.Find(name)
	if n == 0 {
		return worker.Answer{}, api.ErrMissing
	}
	p, ok := x.programs.find(x.runs[n].Program())
	if !ok {
		return worker.Answer{}, api.ErrOther
	}
	return worker.Query(p.Image(), x.store.All(n)...)
}

// Forget: a run that is over is forgotten.
func (x *Engine) Forget(n int) api.Errno {
	if x.down {
		return api.ErrDown
	}
	return x.write(store.Change{Kind: store.Delete, Run: n})
}
