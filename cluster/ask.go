package cluster

import (
	"foliot/api"
	"foliot/engine"
	"foliot/value"
)

// ask: a step that is the server's alone.
func (c *Cluster) ask(s Step) Reply {
	x := c.engine
	switch s.Kind {
	case Start:
		n, e := x.Start(s.Name, s.Text, s.Value, s.N, s.Again)
		return Reply{Code: e, N: int64(n)}
	case Signal:
		return Reply{Code: x.Signal(s.Name, s.Text, s.Value)}
	case Cancel:
		return Reply{Code: x.Cancel(s.Name)}
	case Terminate:
		return Reply{Code: x.Terminate(s.Name, s.Text)}
	case Query:
		return query(x, s.Name)
	case Describe:
		return describe(x, s.Name)
	case Forget:
		return Reply{Code: x.Forget(within(s.N, mostRun))}
	}
	return tick(x, s.N)
}

// query: what the program of a workflow's last run waits for.
func query(x *engine.Engine, name string) Reply {
	a, e := x.Query(name)
	if e != api.OK {
		return Reply{Code: e}
	}
	return Reply{N: int64(a.Waits), Value: value.Text(a.Name)}
}

// describe: what is known of a workflow's last run.
func describe(x *engine.Engine, name string) Reply {
	n := x.Store().Find(name)
	if n == 0 {
		return Reply{Code: api.ErrMissing}
	}
	s := x.State(n)
	task, _, _ := s.Task()
	return Reply{N: int64(n), Value: value.List(
		count(s.Len()),
		value.Bool(s.Closed()),
		count(len(s.Timers())),
		count(len(s.Activities())),
		count(task),
	)}
}

// count: how many there are, as a value.
func count(n int) api.Value { return value.Of(int64(n)) }

// tick: so many ticks pass.
func tick(x *engine.Engine, n int64) Reply {
	if n < 0 || n > engine.MaxTicks {
		return Reply{Code: api.ErrRange}
	}
	if e := x.Tick(int(n)); e != api.OK {
		return Reply{Code: e}
	}
	return Reply{N: x.Now()}
}
