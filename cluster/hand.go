package cluster

import (
	"foliot/api"
	"foliot/engine"
	"foliot/worker"
)

// nondeterminism is why a workflow task goes wrong whose program doesn't want what was written.
const nondeterminism = "nondeterminism"

// hand is a worker, and what it has. Tokens are from 1 on.
type hand struct {
	id     int
	worker *worker.Worker
	task   engine.Task // with the token 0: none
	call   uint64      // the activity's token; 0: it has none
}

// work: a step that is a worker's.
func (c *Cluster) work(s Step) Reply {
	if s.Worker < 1 || s.Worker > len(c.hands) {
		return Reply{Code: api.ErrRange}
	}
	return c.hands[s.Worker-1].do(c.engine, s)
}

// do: the worker does a step.
func (h *hand) do(x *engine.Engine, s Step) Reply {
	switch s.Kind {
	case Work:
		if r := h.take(x); r.Code != api.OK {
			return r
		}
		return h.done(x)
	case Take:
		return h.take(x)
	case Done:
		return h.done(x)
	case Drop:
		h.drop()
		return Reply{}
	case Call:
		return h.takeCall(x)
	case End:
		return h.end(func(token uint64) api.Errno { return x.CompleteCall(token, s.Value) })
	case Fault:
		return h.end(func(token uint64) api.Errno { return x.FailCall(token, s.Text) })
	case Lose:
		h.drop()
		h.worker.Clear()
		return Reply{Code: x.Lose(h.id)}
	case Evict:
		h.worker.Evict(within(s.N, mostRun))
		return Reply{}
	}
	return Reply{Code: api.ErrKind}
}

// take: it takes a workflow task.
func (h *hand) take(x *engine.Engine) Reply {
	if h.task.Token != 0 {
		return Reply{Code: api.ErrBusy}
	}
	t, e := x.Poll(h.id)
	if e != api.OK {
		return Reply{Code: e}
	}
	h.task = t
	return Reply{N: int64(t.Job.Run)}
}

// done: it does the workflow task that it has, and has it no more, whatever comes of that.
func (h *hand) done(x *engine.Engine) Reply {
	t := h.task
	if t.Token == 0 {
		return Reply{Code: api.ErrMissing}
	}
	h.task = engine.Task{}
	r, e := h.worker.Do(t.Job)
	if e != api.OK {
		if code := x.Fail(t.Token, nondeterminism); code != api.OK {
			return Reply{Code: code}
		}
		return Reply{Code: e}
	}
	if e := x.Complete(t.Token, r.More, r.Commands...); e != api.OK {
		return Reply{Code: e}
	}
	return Reply{N: int64(t.Job.Run), Value: count(len(r.Commands))}
}

// drop: it has neither task nor activity any more, and nobody is told.
func (h *hand) drop() { h.task, h.call = engine.Task{}, 0 }

// takeCall: it takes an activity.
func (h *hand) takeCall(x *engine.Engine) Reply {
	if h.call != 0 {
		return Reply{Code: api.ErrBusy}
	}
	c, e := x.PollCall(h.id)
	if e != api.OK {
		return Reply{Code: e}
	}
	h.call = c.Token
	return Reply{N: c.ID, Value: c.Input}
}

// end: the activity that it has ends, one way or another, and it has it no more.
func (h *hand) end(how func(token uint64) api.Errno) Reply {
	token := h.call
	if token == 0 {
		return Reply{Code: api.ErrMissing}
	}
	h.call = 0
	return Reply{Code: how(token)}
}
