package engine

import (
	"testing"

	"foliot/api"
	"foliot/value"
)

// script: calls of which each writes one batch at most; what workers got is kept between them.
func script() []func(x *Engine) api.Errno {
	var task Task
	var c Call
	start := func(name, program string) func(x *Engine) api.Errno {
		return func(x *Engine) api.Errno { _, e := x.Start(name, program, value.Of(1), 0, ""); return e }
	}
	poll := func(x *Engine) (e api.Errno) { task, e = x.Poll(1); return e }
	done := func(x *Engine) api.Errno {
		r, _ := Wants(task)
		return x.Complete(task.Token, r.More, r.Commands...)
	}
	return []func(x *Engine) api.Errno{
		start("w", "pay"), poll, done,
		func(x *Engine) (e api.Errno) { c, e = x.PollCall(2); return e },
		func(x *Engine) api.Errno { return x.CompleteCall(c.Token, value.Text("result")) },
		poll,
		func(x *Engine) api.Errno { return x.Fail(task.Token, "no") },
		poll, done,
		start("v", "on"), poll, done,
		func(x *Engine) api.Errno { return x.Signal("v", "go", value.Of(5)) },
		poll, done, // it goes on as a new run
		func(x *Engine) api.Errno { return x.Forget(1) },
		start("w", "sleep"), poll, done,
		func(x *Engine) api.Errno { return x.Tick(5) },
		poll, done,
		func(x *Engine) api.Errno { return x.Terminate("v", "end") },
	}
}

// P25.1, P25.2 and P25.5: wherever the power goes, the server that is opened anew knows what there was ahead of the call, or what that would have made.
func TestPower(t *testing.T) {
	programs := all(t)
	for fuse := 0; ; fuse++ {
		for keep := range 3 {
			d := newDisk(t, 66)
			x, y := open(t, d, programs, 0), open(t, newDisk(t, 66), programs, 0)
			d.Fuse(fuse)
			ahead := cut(t, x, y)
			if ahead == nil {
				if fuse < 50 {
					t.Errorf("all is done in %d", fuse)
				}
				return
			}
			before := string(y.Store().State())
			d.Crash(d.Pending()[:min(keep, len(d.Pending()))], 0, 0)
			d.Up()
			x = open(t, d, programs, y.Now())
			if !x.Right() || len(x.Match().Leases()) != 0 {
				t.Fatalf("fuse %d: not right", fuse)
			}
			if state := string(x.Store().State()); state != before && state != string(ahead.Store().State()) {
				t.Fatalf("fuse %d, %d: neither what was, nor what would have been", fuse, keep)
			}
			ticks(t, x, 0)
			starts(t, x, "u", "quick")
			for range 4 {
				if _, e := x.Poll(3); e != api.OK && e != api.ErrMissing {
					t.Fatalf("Poll: %v", e)
				}
			}
		}
	}
}

// cut: the script is done by both, up to where the power goes for the first one: the second one has done what was ahead of that; the answer is one that has done that call, too (nil: the power never goes).
func cut(t *testing.T, x, y *Engine) *Engine {
	t.Helper()
	first, second := script(), script()
	for i := range first {
		e := first[i](x)
		if e == api.ErrDown {
			ahead := open(t, newDisk(t, 66), all(t), 0)
			for _, f := range script()[:i+1] {
				want(t, "a call", f(ahead), api.OK)
			}
			return ahead
		}
		want(t, "a call", e, api.OK)
		want(t, "a call", second[i](y), api.OK)
	}
	return nil
}
