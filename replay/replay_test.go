package replay

import (
	"math"
	"reflect"
	"strings"
	"testing"

	"foliot/api"
	"foliot/asm"
	"foliot/command"
	"foliot/event"
	"foliot/machine"
	"foliot/value"
)

func num(n int64) api.Value { return api.Value{Kind: api.Int, N: n} }

func text(s string) api.Value { return api.Value{Kind: api.Text, S: s} }

func list(l ...api.Value) api.Value { return api.Value{Kind: api.List, List: l} }

// program: that of lines with `;` between them; one with a colon is a label.
func program(t *testing.T, lines string) api.Image {
	t.Helper()
	s := ""
	for _, line := range strings.Split(lines, ";") {
		if line = strings.TrimSpace(line); !strings.HasSuffix(line, ":") {
			line = "  " + line
		}
		s += line + "\n"
	}
	p, f := asm.Parse(s)
	if f.Code != api.OK {
		t.Fatalf("%+v in %q", f, lines)
	}
	return p
}

// of: an event of a kind, at a tick, with a number.
func of(kind int, at, a int64) api.Event { return api.Event{Kind: kind, Time: at, A: a} }

func started(at int64, v api.Value) api.Event {
	return api.Event{Time: at, Kind: api.RunStarted, Name: "flow", Value: v}
}

func begun(at, id, due int64) api.Event {
	return api.Event{Time: at, Kind: api.TimerStarted, A: id, B: due}
}

func fires(at, id int64) api.Event { return of(api.TimerFired, at, id) }

func canceled(at, id int64) api.Event { return of(api.TimerCanceled, at, id) }

func signal(at int64, name string, v api.Value) api.Event {
	return api.Event{Time: at, Kind: api.SignalReceived, Name: name, Value: v}
}

func ends(at int64, kind int, v api.Value) api.Event {
	return api.Event{Time: at, Kind: kind, Value: v}
}

// from: events with the IDs from a number on.
func from(id int, events ...api.Event) []api.Event {
	for i := range events {
		events[i].ID = id + i
	}
	return events
}

// history: events with the IDs from 1 on.
func history(events ...api.Event) []api.Event { return from(1, events...) }

// replayed: a program over a history in which nothing is wrong.
func replayed(t *testing.T, lines string, events ...api.Event) *Replayer {
	t.Helper()
	r, e := Replay(program(t, lines), history(events...)...)
	if e != api.OK {
		t.Fatalf("Replay: %v", e)
	}
	return r
}

// feed: more of a history, behind what was seen.
func feed(t *testing.T, r *Replayer, want api.Errno, events ...api.Event) {
	t.Helper()
	if got := r.Feed(from(r.Seen()+1, events...)...); got != want {
		t.Errorf("Feed: %v, not %v", got, want)
	}
}

// printed: commands, one behind the other.
func printed(cs []api.Command) string {
	var l []string
	for _, c := range cs {
		l = append(l, command.Print(c))
	}
	return strings.Join(l, ", ")
}

// written: events, one behind the other.
func written(events []api.Event) string {
	var l []string
	for _, e := range events {
		l = append(l, event.Print(e))
	}
	return strings.Join(l, ", ")
}

// is: what a Replayer tells of its history.
func is(t *testing.T, r *Replayer, seen, found int, closed bool, pending string) {
	t.Helper()
	if r.Seen() != seen || r.Found() != found || r.Closed() != closed {
		t.Errorf("Seen %d, Found %d, Closed %v; not %d, %d, %v", r.Seen(), r.Found(), r.Closed(), seen, found, closed)
	}
	for range 2 { // it stays so, however often it is asked
		if got := printed(r.Pending()); got != pending {
			t.Errorf("Pending: %s; not %s", got, pending)
		}
	}
}

const (
	sleeps = "push 5; timer; wait; return"
	// It begins a timer, and at the signal `go` two others; then it cancels the first one.
	drops = "push 5; timer; signal \"go\"; pop; push 6; timer; pop; cancel; push 7; timer; pop; signal \"end\"; return"
)

// P15.1: what isn't run is no Replayer.
func TestNewErrors(t *testing.T) {
	for name, x := range map[string]struct {
		p    api.Image
		want api.Errno
	}{
		"nothing":        {api.Image{}, api.ErrShort},
		"too long":       {api.Image{Code: make([]api.Instr, 513)}, api.ErrLong},
		"no instruction": {api.Image{Code: []api.Instr{{Op: 99}}}, api.ErrOp},
		"an empty stack": {program(t, "pop; fail \"x\""), api.ErrStack},
		"no end":         {program(t, "now"), api.ErrEnd},
		"round and on":   {program(t, "top:; nop; jump top"), api.ErrLoop},
	} {
		if m, e := machine.New(x.p); m != nil || e != x.want {
			t.Errorf("the machine, %s: %v, not %v", name, e, x.want)
		}
		if r, e := New(x.p); r != nil || e != x.want {
			t.Errorf("New, %s: %v, not %v", name, e, x.want)
		}
		wrong := api.Event{Kind: 99}
		if r, e := Replay(x.p, wrong); r != nil || e != x.want {
			t.Errorf("Replay, %s: %v, not %v", name, e, x.want)
		}
		if l, e := Settle(x.p, history(started(1, num(0)))...); len(l) > 0 || e != x.want {
			t.Errorf("Settle, %s: %v, not %v", name, e, x.want)
		}
	}
}

// P15.1: a program over no history; what layer 14 calls is a Replayer's, too.
func TestNew(t *testing.T) {
	p := program(t, sleeps)
	for range 2 {
		r, e := New(p)
		if e != api.OK {
			t.Fatal(e)
		}
		is(t, r, 0, 0, false, "")
		if kind, _, _ := r.Waits(); kind != machine.Start || r.Events() != 0 || len(r.Made()) != 0 {
			t.Error("it has begun")
		}
		feed(t, r, api.OK)
		is(t, r, 0, 0, false, "")
		feed(t, r, api.OK, started(2, num(0)))
		kind, id, name := r.Waits()
		if kind != machine.ForTimer || id != 1 || name != "" || r.Events() != 1 || r.Steps() != 2 || r.Trap() != "" {
			t.Error("what is embedded tells otherwise")
		}
		m, _ := machine.New(p)
		m.Apply(history(started(2, num(0)))[0])
		if string(m.State()) != string(r.State()) || printed(m.Made()) != printed(r.Made()) || printed(r.Take()) != "@2 start-timer 1 5" || len(r.Take()) != 0 {
			t.Error("what is embedded has another State")
		}
		is(t, r, 1, 0, false, "@2 start-timer 1 5") // whatever was taken
		feed(t, r, api.OK, begun(2, 1, 7), fires(7, 1))
		is(t, r, 3, 1, false, "@7 complete 7")
		if printed(r.Take()) != "@7 complete 7" || printed(r.Made()) != "@2 start-timer 1 5, @7 complete 7" {
			t.Error("Take and Made")
		}
	}
}

// P15.1: the errors of Replay, and what it answers.
func TestReplay(t *testing.T) {
	p := program(t, sleeps)
	whole := history(started(2, num(0)), begun(2, 1, 7), fires(7, 1), ends(7, api.RunCompleted, num(7)))
	for n := range len(whole) + 1 {
		r, e := Replay(p, whole[:n]...)
		if e != api.OK {
			t.Fatal(e)
		}
		is(t, r, n, []int{0, 0, 1, 1, 2}[n], n == 4, []string{"", "@2 start-timer 1 5", "", "@7 complete 7", ""}[n])
	}
	for i, x := range []struct {
		list []api.Event
		want api.Errno
	}{
		{[]api.Event{{}}, api.ErrKind},
		{whole[1:], api.ErrChain},
		{history(fires(1, 1)), api.ErrState},
		{history(started(2, num(0)), begun(2, 1, 8)), api.ErrOther},
		{append(history(started(2, num(0)), begun(2, 1, 7), fires(7, 1), ends(7, api.RunCompleted, num(7))), api.Event{ID: 5, Kind: api.TaskFailed}), api.ErrClosed},
	} {
		if r, e := Replay(p, x.list...); r != nil || e != x.want {
			t.Errorf("%d: %v, not %v", i, e, x.want)
		}
	}
}

// The document's example.
func TestExample(t *testing.T) {
	r := replayed(t, sleeps, started(2, num(0)))
	c := r.Clone()
	feed(t, r, api.OK, begun(2, 1, 7))
	is(t, r, 2, 1, false, "")
	feed(t, c, api.ErrOther, begun(2, 1, 8))
	is(t, c, 1, 0, false, "")
}

// P15.2: each error, and of several the one that is told first.
func TestFeedErrors(t *testing.T) {
	wrong := func(e *api.Event) { e.B = -1 }
	jumps := func(e *api.Event) { e.ID++ }
	none := func(e *api.Event) {}
	open := []api.Event{started(2, num(0))}
	over := []api.Event{started(2, num(0)), of(api.RunTerminated, 3, 0)}
	for i, x := range []struct {
		seen   []api.Event
		e      api.Event
		change func(e *api.Event)
		want   api.Errno
	}{
		{nil, started(2, num(0)), none, api.OK},
		{nil, fires(2, 1), none, api.ErrState},
		{nil, begun(2, 1, 7), none, api.ErrState},
		{nil, of(api.TaskScheduled, 2, 0), none, api.ErrState},
		{nil, of(api.RunTerminated, 2, 0), none, api.ErrState},
		{nil, of(api.RunCanceled, 2, 0), none, api.ErrState},
		{nil, started(2, num(0)), jumps, api.ErrChain},
		{nil, fires(2, 1), jumps, api.ErrChain},
		{nil, fires(2, 1), wrong, api.ErrKind},
		{nil, started(2, api.Value{Kind: 5}), none, api.ErrKind},
		{nil, api.Event{}, none, api.ErrKind},
		{open, started(2, num(0)), none, api.ErrState},
		{open, started(2, num(0)), jumps, api.ErrChain},
		{open, fires(2, 1), none, api.OK},
		{open, fires(2, 1), jumps, api.ErrChain},
		{open, fires(2, 1), func(e *api.Event) { e.ID = 1 }, api.ErrChain},
		{open, fires(2, 1), func(e *api.Event) { e.ID = 0 }, api.ErrKind},
		{open, fires(2, 1), func(e *api.Event) { e.ID = -2 }, api.ErrKind},
		{open, fires(2, 1), func(e *api.Event) { e.ID = event.MaxID + 1 }, api.ErrKind},
		{open, fires(2, 1), func(e *api.Event) { e.ID = event.MaxID }, api.ErrChain},
		{open, fires(2, 1), func(e *api.Event) { e.Time = -1 }, api.ErrKind},
		{open, fires(2, 1), func(e *api.Event) { e.Kind = 22 }, api.ErrKind},
		{open, begun(2, 1, 7), none, api.OK},
		{open, begun(2, 1, 8), none, api.ErrOther},
		{open, begun(2, 1, 8), jumps, api.ErrChain},
		{open, begun(2, 1, 8), wrong, api.ErrKind},
		{open, begun(2, 1, 7), func(e *api.Event) { e.Name = "x" }, api.ErrKind},
		{over, of(api.TaskTimedOut, 4, 0), none, api.ErrClosed},
		{over, fires(4, 1), none, api.ErrClosed},
		{over, begun(2, 1, 7), none, api.ErrClosed},
		{over, begun(2, 1, 8), none, api.ErrClosed},
		{over, started(4, num(0)), none, api.ErrClosed},
		{over, started(4, num(0)), jumps, api.ErrChain},
		{over, fires(4, 1), wrong, api.ErrKind},
		{over, of(api.RunTerminated, 4, 0), none, api.ErrClosed},
	} {
		r, e := Replay(program(t, sleeps), history(append([]api.Event{}, x.seen...)...)...)
		if e != api.OK {
			t.Fatal(e)
		}
		x.e.ID = len(x.seen) + 1
		x.change(&x.e)
		if got := r.Feed(x.e); got != x.want {
			t.Errorf("%d: %v, not %v", i, got, x.want)
		}
		if got := r.Feed(); got != x.want {
			t.Errorf("%d: then %v, not %v", i, got, x.want)
		}
	}
}

// P15.2: behind an error all stays as it was, but Pending; each later Feed answers that error.
func TestFeedStays(t *testing.T) {
	for name, x := range map[string]struct {
		bad  []api.Event
		want api.Errno
		seen int // of those
	}{
		"a wrong one":          {[]api.Event{{ID: 2, Kind: 99}}, api.ErrKind, 0},
		"a gap":                {from(3, fires(7, 1)), api.ErrChain, 0},
		"a second beginning":   {from(2, started(2, num(0))), api.ErrState, 0},
		"another one":          {from(2, begun(2, 1, 8), fires(7, 1)), api.ErrOther, 0},
		"another one, further": {from(2, begun(2, 1, 7), of(api.TaskFailed, 3, 0), begun(2, 1, 7), fires(7, 1)), api.ErrOther, 2},
	} {
		if name == "another one, further" {
			x.bad[1].A, x.bad[1].Name = 0, "why"
		}
		r := replayed(t, sleeps, started(2, num(0)))
		want := replayed(t, sleeps, started(2, num(0)))
		if e := want.Feed(x.bad[:x.seen]...); e != api.OK {
			t.Fatal(e)
		}
		if got := r.Feed(x.bad...); got != x.want {
			t.Fatalf("%s: %v, not %v", name, got, x.want)
		}
		for _, next := range [][]api.Event{nil, from(r.Seen()+1, begun(2, 1, 7)), from(r.Seen()+1, fires(7, 1)), {{}}, x.bad} {
			is(t, r, 1+x.seen, want.Found(), false, "")
			if string(r.State()) != string(want.State()) || r.Events() != 1 || printed(r.Made()) != "@2 start-timer 1 5" {
				t.Errorf("%s: the program went on", name)
			}
			if got := r.Feed(next...); got != x.want {
				t.Errorf("%s: then %v, not %v", name, got, x.want)
			}
			if got := r.Clone().Feed(next...); got != x.want {
				t.Errorf("%s: then %v of a clone, not %v", name, got, x.want)
			}
		}
		if printed(r.Take()) != "@2 start-timer 1 5" {
			t.Errorf("%s: nothing to take", name)
		}
	}
}

// P15.2: an error behind those that were passed over leaves Found as it was, and a timer that fired in a refused event didn't.
func TestFeedStaysLate(t *testing.T) {
	r := replayed(t, drops, started(2, num(0)), begun(2, 1, 7), signal(3, "go", num(0)), fires(7, 1), begun(3, 2, 9))
	is(t, r, 5, 2, false, "@3 start-timer 3 7")
	feed(t, r, api.ErrOther, begun(3, 3, 11))
	is(t, r, 5, 2, false, "")

	r = replayed(t, drops, started(2, num(0)), begun(2, 1, 7), signal(3, "go", num(0)), begun(3, 2, 9))
	if e := r.Feed(api.Event{ID: 9, Time: 7, Kind: api.TimerFired, A: 1}); e != api.ErrChain {
		t.Fatal(e)
	}
	if len(r.fired) != 0 {
		t.Error("a timer fired in an event that wasn't seen")
	}
}

// P15.3: what is written of commands is found in their order, each whole.
func TestFound(t *testing.T) {
	lines := "push \"in\"; push 9; call \"pay\"; pop; push 5; timer; cancel; pop; push [1]; again"
	open := []api.Event{started(2, num(0))}
	all := []api.Event{
		{Time: 2, Kind: api.ActivityScheduled, A: 1, B: 9, Name: "pay", Value: text("in")},
		begun(2, 1, 7),
		canceled(2, 1),
		{Time: 2, Kind: api.ContinuedAsNew, B: 77, Value: list(num(1))},
	}
	wants := []string{"@2 schedule 1 9 \"pay\" \"in\"", "@2 start-timer 1 5", "@2 cancel-timer 1", "@2 again [1]"}
	for n := range len(all) + 1 {
		r := replayed(t, lines, append(append([]api.Event{}, open...), all[:n]...)...)
		pending := strings.Join(wants[n:], ", ")
		is(t, r, n+1, n, n == 4, pending)
		if n == 4 {
			continue
		}
		for i, e := range all { // none but the next one
			c := r.Clone()
			if i == n {
				feed(t, c, api.OK, e)
				continue
			}
			feed(t, c, api.ErrOther, e)
		}
		for i, change := range []func(e *api.Event){
			func(e *api.Event) { e.Time++ },
			func(e *api.Event) { e.A++ },
			func(e *api.Event) { e.B++ },
			func(e *api.Event) { e.Name += "x" },
			func(e *api.Event) { e.Value = num(3) },
		} {
			e := all[n]
			change(&e)
			want := api.ErrOther
			e.ID = n + 2
			if event.Check(e) != api.OK {
				want = api.ErrKind
			} else if e.Kind == api.ContinuedAsNew && i == 2 {
				want = api.OK // the next run's number is told by who writes it
			}
			feed(t, r.Clone(), want, e)
		}
	}
}

// P15.3: the ends that are written of commands; what no command asks for is ErrOther.
func TestFoundEnds(t *testing.T) {
	r := replayed(t, "fail \"no\"", started(2, num(0)))
	feed(t, r.Clone(), api.ErrOther, api.Event{Time: 2, Kind: api.RunFailed, Name: "yes"})
	feed(t, r.Clone(), api.ErrOther, ends(2, api.RunCompleted, api.Value{}))
	feed(t, r, api.OK, api.Event{Time: 2, Kind: api.RunFailed, Name: "no"})
	is(t, r, 2, 1, true, "")

	r = replayed(t, "signal \"go\"; wait; return", started(2, num(0)), signal(3, "go", num(1)))
	if r.Trap() != "gone" {
		t.Error("it didn't fall")
	}
	feed(t, r, api.OK, api.Event{Time: 3, Kind: api.RunFailed, Name: "trap gone"})
	is(t, r, 3, 1, true, "")

	r = replayed(t, "signal \"go\"; return", started(2, num(0)))
	for _, e := range []api.Event{begun(2, 1, 7), canceled(2, 1), {Time: 2, Kind: api.ActivityScheduled, A: 1}, ends(2, api.RunCompleted, num(1)), {Time: 2, Kind: api.RunFailed}, ends(2, api.ContinuedAsNew, num(1))} {
		feed(t, r.Clone(), api.ErrOther, e)
	}
	is(t, r, 1, 0, false, "")
}

// P15.3, P15.4: a cancel-timer of a timer that fired is passed over, and isn't pending.
func TestTooLate(t *testing.T) {
	open := []api.Event{started(2, num(0)), begun(2, 1, 7), signal(3, "go", num(0)), begun(3, 2, 9)}
	r := replayed(t, drops, open...)
	is(t, r, 4, 2, false, "@3 cancel-timer 1, @3 start-timer 3 7")
	in := r.Clone()
	feed(t, in, api.OK, canceled(3, 1), begun(3, 3, 10))
	is(t, in, 6, 4, false, "")
	feed(t, r.Clone(), api.ErrOther, begun(3, 3, 10)) // it may not be left out
	other := r.Clone()
	feed(t, other, api.OK, fires(9, 2)) // another timer
	is(t, other, 5, 2, false, "@3 cancel-timer 1, @3 start-timer 3 7")
	feed(t, other, api.ErrOther, begun(3, 3, 10))

	feed(t, r, api.OK, fires(7, 1))
	is(t, r, 5, 2, false, "@3 start-timer 3 7") // Found is one more only when the next one is found
	feed(t, r.Clone(), api.ErrOther, canceled(3, 1))
	feed(t, r, api.OK, of(api.TaskStarted, 8, 3))
	is(t, r, 6, 2, false, "@3 start-timer 3 7")
	feed(t, r, api.OK, begun(3, 3, 10))
	is(t, r, 7, 4, false, "")
	feed(t, r.Clone(), api.ErrOther, canceled(3, 1))
	feed(t, r, api.OK, signal(9, "end", num(1)), ends(9, api.RunCompleted, num(1)))
	is(t, r, 9, 5, true, "")

	// One that was found is found, though its timer fires then.
	feed(t, in, api.OK, fires(7, 1), signal(9, "end", num(1)))
	is(t, in, 8, 4, false, "@9 complete 1")
	feed(t, in, api.ErrOther, canceled(3, 1))
}

// P15.3: only those ahead of the next one are passed over; all at the end, and none that isn't a cancel-timer.
func TestTooLateMany(t *testing.T) {
	three := "push 5; timer; push 5; timer; push 5; timer; signal \"go\"; pop; cancel; pop; cancel; pop; push 1; push 2; call \"a\"; pop; cancel; return"
	open := []api.Event{started(2, num(0)), begun(2, 1, 7), begun(2, 2, 7), begun(2, 3, 7), signal(3, "go", num(0))}
	paid := api.Event{Time: 3, Kind: api.ActivityScheduled, A: 1, B: 2, Name: "a", Value: num(1)}
	r := replayed(t, three, open...)
	is(t, r, 5, 3, false, "@3 cancel-timer 3, @3 cancel-timer 2, @3 schedule 1 2 \"a\" 1, @3 cancel-timer 1, @3 complete 1")
	feed(t, r, api.OK, fires(7, 1))
	is(t, r, 6, 3, false, "@3 cancel-timer 3, @3 cancel-timer 2, @3 schedule 1 2 \"a\" 1, @3 complete 1")
	feed(t, r, api.OK, fires(7, 2), fires(7, 3))
	is(t, r, 8, 3, false, "@3 schedule 1 2 \"a\" 1, @3 complete 1")
	feed(t, r, api.OK, paid)
	is(t, r, 9, 6, false, "@3 complete 1")
	feed(t, r, api.OK, ends(3, api.RunCompleted, num(1)))
	is(t, r, 10, 8, true, "")

	// The first in between is passed over behind one that was found.
	r = replayed(t, three, open...)
	feed(t, r, api.OK, fires(7, 2), canceled(3, 3))
	is(t, r, 7, 4, false, "@3 schedule 1 2 \"a\" 1, @3 cancel-timer 1, @3 complete 1")
	feed(t, r, api.OK, paid)
	is(t, r, 8, 6, false, "@3 cancel-timer 1, @3 complete 1")

	// Nothing is left but what came too late.
	r = replayed(t, "push 5; timer; signal \"go\"; pop; cancel; signal \"end\"; return", started(2, num(0)), begun(2, 1, 7), signal(3, "go", num(0)), fires(7, 1))
	is(t, r, 4, 1, false, "")
	feed(t, r.Clone(), api.ErrOther, canceled(3, 1))
	feed(t, r.Clone(), api.ErrOther, begun(3, 2, 9))
	is(t, r, 4, 1, false, "")

	// A start-timer or a schedule of that number doesn't come too late; a timer that fired ahead of its beginning did fire.
	r = replayed(t, "signal \"go\"; push 5; timer; push 2; call \"a\"; pop; push 6; timer; cancel; return", started(2, num(0)), fires(2, 1), fires(2, 2), signal(3, "go", num(0)))
	is(t, r, 4, 0, false, "@3 start-timer 1 5, @3 schedule 1 2 \"a\" 1, @3 start-timer 2 6, @3 complete 1")
	r = replayed(t, "signal \"go\"; push 5; timer; cancel; pop; return", started(2, num(0)), fires(2, 1), signal(3, "go", num(4)))
	is(t, r, 3, 0, false, "@3 start-timer 1 5, @3 complete 4")
	feed(t, r, api.OK, begun(3, 1, 8), ends(3, api.RunCompleted, num(4)))
	is(t, r, 5, 3, true, "")
}

// P15.3: what comes from outside when the program is over is seen, and passed over; a timer that fires then did fire.
func TestRefused(t *testing.T) {
	lines := "push 5; timer; signal \"go\"; swap; cancel; pop; return"
	r := replayed(t, lines, started(2, num(0)), begun(2, 1, 7), signal(3, "go", num(8)))
	is(t, r, 3, 1, false, "@3 cancel-timer 1, @3 complete 8")
	state := string(r.State())
	feed(t, r, api.OK, signal(4, "go", num(9)), of(api.CancelRequested, 5, 0), of(api.ActivityTimedOut, 6, 1))
	is(t, r, 6, 1, false, "@3 cancel-timer 1, @3 complete 8")
	feed(t, r, api.OK, fires(7, 1))
	is(t, r, 7, 1, false, "@3 complete 8")
	if r.Events() != 2 || string(r.State()) != state {
		t.Error("the program went on")
	}
	c := r.Clone()
	feed(t, c, api.OK, api.Event{Time: 8, Kind: api.RunTerminated, Name: "why"})
	is(t, c, 8, 1, true, "")
	feed(t, r, api.OK, ends(3, api.RunCompleted, num(8)))
	is(t, r, 8, 3, true, "")
}

// P15.3: bookkeeping, and all else that is neither from outside nor written of commands, is passed over.
func TestOthers(t *testing.T) {
	others := []api.Event{
		{Kind: api.TaskScheduled, B: 1}, {Kind: api.TaskStarted, A: 2, B: 1}, {Kind: api.TaskCompleted, A: 2, B: 1},
		{Kind: api.TaskTimedOut, B: 1}, {Kind: api.TaskFailed, B: 1, Name: "why"}, {Kind: api.TaskCompleted},
	}
	r := replayed(t, sleeps, started(2, num(0)))
	state := string(r.State())
	for i, e := range others {
		feed(t, r, api.OK, e)
		is(t, r, 2+i, 0, false, "@2 start-timer 1 5")
	}
	if string(r.State()) != state {
		t.Error("the program went on")
	}
	feed(t, r, api.OK, begun(2, 1, 7))
	is(t, r, 8, 1, false, "")
	feed(t, r, api.OK, others...)
	is(t, r, 14, 1, false, "")
	feed(t, r, api.OK, fires(7, 1))
	is(t, r, 15, 1, false, "@7 complete 7")
	feed(t, r, api.OK, of(api.RunCanceled, 9, 0))
	is(t, r, 16, 1, true, "")
	feed(t, r, api.ErrClosed, others...)
	is(t, r, 16, 1, true, "")
}

// P15.1, P15.4: each kind that Closes; nothing is pending then.
func TestClosed(t *testing.T) {
	for kind := api.RunStarted; kind <= api.ContinuedAsNew; kind++ {
		e := api.Event{ID: 2, Time: 2, Kind: kind}
		r := replayed(t, "fail \"\"", started(2, num(0)))
		switch kind {
		case api.RunCompleted:
			r = replayed(t, "push nil; return", started(2, num(0)))
		case api.ContinuedAsNew:
			r = replayed(t, "push nil; again", started(2, num(0)))
		}
		if r.Closed() || len(r.Pending()) != 1 {
			t.Errorf("closed ahead of the kind %d", kind)
		}
		err := r.Feed(e)
		closes := kind >= api.RunCompleted
		if err != api.OK && closes || r.Closed() != closes {
			t.Errorf("closed by the kind %d: %v, %v", kind, r.Closed(), err)
		}
		if left := len(r.Pending()); left > 0 && (closes || err != api.OK) || left == 0 && err == api.OK && !closes {
			t.Errorf("behind the kind %d there are %d", kind, left)
		}
	}
}

// P15.2: the most events that there may be, and times at the ends.
func TestFeedEdges(t *testing.T) {
	r := replayed(t, sleeps, started(event.MaxTime, num(0)))
	feed(t, r.Clone(), api.OK, begun(event.MaxTime, 1, event.MaxTime))
	feed(t, r.Clone(), api.ErrOther, begun(event.MaxTime, 1, event.MaxTime-1))
	feed(t, r, api.OK, fires(0, math.MaxInt64), fires(0, 0), begun(event.MaxTime, 1, event.MaxTime))
	is(t, r, 4, 1, false, "")

	last, e := New(program(t, sleeps))
	if e != api.OK {
		t.Fatal(e)
	}
	feed(t, last, api.OK, started(0, num(0)))
	many := make([]api.Event, event.MaxID-1)
	for i := range many {
		many[i] = api.Event{ID: i + 2, Kind: api.TaskScheduled}
	}
	if e := last.Feed(many...); e != api.OK {
		t.Fatal(e)
	}
	is(t, last, event.MaxID, 0, false, "@0 start-timer 1 5")
	if e := last.Feed(api.Event{ID: event.MaxID, Kind: api.TaskStarted}); e != api.ErrChain {
		t.Error(e)
	}
}

// P15.1: a clone, in memory of its own.
func TestClone(t *testing.T) {
	open := []api.Event{started(2, num(0)), begun(2, 1, 7), signal(3, "go", num(0)), begun(3, 2, 9)}
	one := replayed(t, drops, open...)
	two := one.Clone()
	if one == two || one.Machine == two.Machine {
		t.Fatal("one memory")
	}
	feed(t, two, api.OK, fires(7, 1), begun(3, 3, 10))
	is(t, two, 6, 4, false, "")
	is(t, one, 4, 2, false, "@3 cancel-timer 1, @3 start-timer 3 7")
	three := two.Clone()
	feed(t, one, api.OK, canceled(3, 1))
	is(t, one, 5, 3, false, "@3 start-timer 3 7")
	feed(t, two, api.OK, of(api.RunTimedOut, 9, 0))
	is(t, three, 6, 4, false, "")
	is(t, two.Clone(), 7, 4, true, "")
	feed(t, three, api.OK, signal(9, "end", num(5)), ends(9, api.RunCompleted, num(5)))
	is(t, three, 8, 5, true, "")

	// What fired stays with each.
	one = replayed(t, drops, open...)
	two = one.Clone()
	feed(t, one, api.OK, fires(7, 1))
	three = one.Clone()
	is(t, two, 4, 2, false, "@3 cancel-timer 1, @3 start-timer 3 7")
	is(t, three, 5, 2, false, "@3 start-timer 3 7")
	feed(t, three, api.OK, fires(9, 2))
	if len(one.fired) != 1 || len(two.fired) != 0 || len(three.fired) != 2 {
		t.Error("what fired in one, fired in another one")
	}

	// An error of one isn't the other's.
	bad := two.Clone()
	feed(t, bad, api.ErrOther, begun(3, 3, 10))
	feed(t, two, api.OK, canceled(3, 1))
	feed(t, bad.Clone(), api.ErrOther)
	is(t, two, 5, 3, false, "@3 start-timer 3 7")
}

// P15.5: which events are from outside, and which are written of commands, whatever else they are.
func TestOutsideMade(t *testing.T) {
	var all []api.Event
	for kind := -2; kind < 25; kind++ {
		all = append(all, api.Event{ID: 7 - kind, Time: int64(kind), Kind: kind, A: -1, B: 5, Name: "n", Text: "t", Value: list(num(1))})
	}
	kinds := func(l []api.Event) (kinds []int) {
		for _, e := range l {
			want := api.Event{ID: 7 - e.Kind, Time: int64(e.Kind), Kind: e.Kind, A: -1, B: 5, Name: "n", Text: "t", Value: list(num(1))}
			if !event.Same(e, want) {
				t.Errorf("%+v is another one", e)
			}
			kinds = append(kinds, e.Kind)
		}
		return kinds
	}
	outside := []int{api.RunStarted, api.ActivityCompleted, api.ActivityFailed, api.ActivityTimedOut, api.TimerFired, api.SignalReceived, api.CancelRequested, api.RunTerminated, api.RunTimedOut}
	made := []int{api.ActivityScheduled, api.TimerStarted, api.TimerCanceled, api.RunCompleted, api.RunFailed, api.ContinuedAsNew}
	if got := kinds(Outside(all...)); !reflect.DeepEqual(got, outside) {
		t.Errorf("Outside: %v", got)
	}
	if got := kinds(Made(all...)); !reflect.DeepEqual(got, made) {
		t.Errorf("Made: %v", got)
	}
	if len(Outside()) != 0 || len(Made()) != 0 || len(Outside(Made(all...)...)) != 0 || len(Made(Outside(all...)...)) != 0 {
		t.Error("some of none")
	}
	// Their order, and each as often as it is there.
	list := history(signal(5, "b", num(1)), begun(4, 2, 9), signal(5, "b", num(1)), fires(3, 1), begun(4, 2, 9), canceled(1, 1))
	if got := written(Outside(list...)); got != "1 @5 signal-received \"b\" 1, 3 @5 signal-received \"b\" 1, 4 @3 timer-fired 1" {
		t.Error(got)
	}
	if got := written(Made(list...)); got != "2 @4 timer-started 2 9, 5 @4 timer-started 2 9, 6 @1 timer-canceled 1" {
		t.Error(got)
	}
}

// P15.5.
func TestSettle(t *testing.T) {
	for i, x := range []struct {
		lines   string
		outside []api.Event
		want    string
	}{
		{sleeps, nil, ""},
		{sleeps, history(started(2, num(0))), "0 @2 timer-started 1 7"},
		{sleeps, history(started(2, num(0)), fires(9, 1)), "0 @2 timer-started 1 7, 0 @9 run-completed 9"},
		{sleeps, history(started(2, num(0)), of(api.RunTimedOut, 4, 0), fires(9, 1)), "0 @2 timer-started 1 7"},
		{"push 3; again", history(started(2, num(0))), "0 @2 continued-as-new 0 3"},
		{"push 3; push 4; call \"a\"; join; pop; fail \"x\"", history(started(2, num(0)), of(api.ActivityTimedOut, 3, 1)), "0 @2 activity-scheduled 1 4 \"a\" 3, 0 @3 run-failed \"x\""},
		{drops, history(started(2, num(0)), signal(3, "go", num(0))), "0 @2 timer-started 1 7, 0 @3 timer-started 2 9, 0 @3 timer-canceled 1, 0 @3 timer-started 3 10"},
		{drops, history(started(2, num(0)), signal(3, "go", num(0)), fires(7, 1)), "0 @2 timer-started 1 7, 0 @3 timer-started 2 9, 0 @3 timer-started 3 10"},
		{drops, history(started(2, num(0)), signal(3, "go", num(0)), fires(7, 2), fires(7, 3)), "0 @2 timer-started 1 7, 0 @3 timer-started 2 9, 0 @3 timer-canceled 1, 0 @3 timer-started 3 10"},
		{drops, history(started(2, num(0)), fires(7, 1), signal(8, "go", num(0))), "0 @2 timer-started 1 7, 0 @8 timer-started 2 14, 0 @8 timer-started 3 15"},
		// What it refuses is passed over: what is no beginning, a second one, what doesn't come from outside or may not be, and all when it is over.
		{sleeps, history(fires(1, 1), started(2, num(0)), started(3, num(0)), begun(2, 1, 7), of(api.TaskScheduled, 3, 0), fires(9, 1), started(10, num(0))), "0 @2 timer-started 1 7, 0 @9 run-completed 9"},
		{sleeps, []api.Event{{Kind: api.RunStarted, Time: 1}, {ID: 5, Kind: api.RunStarted, Time: 2}, {ID: 3, Kind: api.TimerFired, A: 1, Time: -1}, {ID: 4, Kind: 99}}, "0 @2 timer-started 1 7"},
		// A timer that fires when the program is over, or hasn't begun, did fire.
		{drops, history(fires(1, 1), started(2, num(0)), signal(3, "go", num(0))), "0 @2 timer-started 1 7, 0 @3 timer-started 2 9, 0 @3 timer-started 3 10"},
		{"push 5; timer; signal \"go\"; swap; cancel; pop; return", history(started(2, num(0)), signal(3, "go", num(8)), fires(7, 1)), "0 @2 timer-started 1 7, 0 @3 run-completed 8"},
		{"push 5; timer; signal \"go\"; swap; cancel; pop; return", history(started(2, num(0)), signal(3, "go", num(8)), of(api.RunTerminated, 6, 0)), "0 @2 timer-started 1 7, 0 @3 timer-canceled 1, 0 @3 run-completed 8"},
	} {
		got, e := Settle(program(t, x.lines), x.outside...)
		if e != api.OK || written(got) != x.want {
			t.Errorf("%d: %v, %s; not %s", i, e, written(got), x.want)
		}
	}
}

// scribble: all memory of a list that can be reached is written over, its spare room too.
func scribble(l []api.Event) {
	l = l[:cap(l)]
	for i := range l {
		scrawl(&l[i].Value)
		l[i] = api.Event{Kind: 99, A: -1, Name: "scribble"}
	}
}

func scrawl(v *api.Value) {
	l := v.List[:cap(v.List)]
	for i := range l {
		scrawl(&l[i])
		l[i] = text("scribble")
	}
}

func scribbleAll(l []api.Command) {
	l = l[:cap(l)]
	for i := range l {
		scrawl(&l[i].Value)
		l[i] = api.Command{Kind: 99, A: -1, Name: "scribble"}
	}
}

// P2: what is handed in is neither changed nor kept.
func TestHandedIn(t *testing.T) {
	room := make([]api.Value, 3)
	room[0], room[1], room[2] = num(1), list(num(2)), num(3)
	in := api.Value{Kind: api.List, List: room[:2]}
	p := program(t, "input; again")
	events := append(make([]api.Event, 0, 4), history(started(2, in), ends(2, api.ContinuedAsNew, in))...)
	before := written(events)
	r, e := New(p)
	if e != api.OK {
		t.Fatal(e)
	}
	check := func() {
		t.Helper()
		if written(events) != before || room[2].N != 3 || !reflect.DeepEqual(events[:4][2:], make([]api.Event, 2)) {
			t.Fatal("what was handed in is changed")
		}
	}
	first := events[:1]
	if e := r.Feed(first...); e != api.OK {
		t.Fatal(e)
	}
	check()
	outside, made := Outside(events...), Made(events...)
	settled, e := Settle(p, events...)
	if e != api.OK {
		t.Fatal(e)
	}
	whole, e := Replay(p, events...)
	if e != api.OK {
		t.Fatal(e)
	}
	check()
	scribble(events)
	for i := range p.Code {
		p.Code[i] = api.Instr{Op: -1}
	}
	is(t, r, 1, 0, false, "@2 again [1 [2]]")
	is(t, whole, 2, 1, true, "")
	if written(outside) != "1 @2 run-started 0 0 \"flow\" \"\" [1 [2]]" || written(made) != "2 @2 continued-as-new 0 [1 [2]]" || written(settled) != "0 @2 continued-as-new 0 [1 [2]]" {
		t.Error("an answer shares memory with an argument")
	}
	feed(t, r, api.OK, ends(2, api.ContinuedAsNew, list(num(1), list(num(2)))))
}

// P2: what is answered shares no memory with what is kept, or with another answer.
func TestAnswered(t *testing.T) {
	lines := "push [1 [2]]; push 3; call \"a\"; pop; push 5; timer; signal \"go\"; pop; cancel; pop; push [4 [5]]; push 3; call \"a\"; pop; signal \"go\"; return"
	open := history(started(2, num(0)), api.Event{Time: 2, Kind: api.ActivityScheduled, A: 1, B: 3, Name: "a", Value: list(num(1), list(num(2)))}, begun(2, 1, 7), signal(3, "go", num(0)), fires(4, 1))
	r := replayed(t, lines, open...)
	clone := r.Clone()
	want := "@3 schedule 2 3 \"a\" [4 [5]]"
	one, two, made := r.Pending(), r.Pending(), r.Made()
	scribbleAll(one)
	if printed(two) != want || !strings.HasSuffix(printed(made), want) {
		t.Error("two answers share memory")
	}
	scribbleAll(made)
	scribbleAll(r.Take())
	is(t, r, 5, 2, false, want)
	is(t, clone, 5, 2, false, want)
	scribbleAll(clone.Pending())
	is(t, r, 5, 2, false, want)
	p := program(t, lines)
	first, e := Settle(p, Outside(open...)...)
	second, _ := Settle(p, Outside(open...)...)
	if e != api.OK {
		t.Fatal(e)
	}
	scribble(first)
	third, _ := Settle(p, Outside(open...)...)
	if w := written(second); w != written(third) || !strings.HasSuffix(w, "0 @3 activity-scheduled 2 3 \"a\" [4 [5]]") {
		t.Error("two answers of Settle share memory: " + w)
	}
	outside, again := Outside(open...), Outside(open...)
	scribble(outside)
	if written(again) != written(Outside(open...)) || len(again) != 3 {
		t.Error("two answers of Outside share memory")
	}
	scribble(Made(open...))
	if written(Made(open...)) != "2 @2 activity-scheduled 1 3 \"a\" [1 [2]], 3 @2 timer-started 1 7" {
		t.Error("what Made answers shares memory")
	}
	feed(t, r, api.OK, api.Event{Time: 3, Kind: api.ActivityScheduled, A: 2, B: 3, Name: "a", Value: list(num(4), list(num(5)))})
}

// P1: values that have no end.
func TestEndless(t *testing.T) {
	ring := make([]api.Value, 1)
	ring[0] = list(ring...)
	for _, kind := range []int{api.RunStarted, api.SignalReceived, api.ActivityScheduled, api.TaskStarted, api.ContinuedAsNew} {
		e := api.Event{ID: 1, Kind: kind, Value: list(ring...)}
		if len(Outside(e))+len(Made(e)) != 1 && kind != api.TaskStarted {
			t.Error("it is gone")
		}
		if r, err := Replay(program(t, sleeps), e); r != nil || err != api.ErrKind {
			t.Error(err)
		}
		if l, err := Settle(program(t, sleeps), e); len(l) > 0 || err != api.OK {
			t.Error(err)
		}
	}
	if v := list(ring...); value.Check(v) != api.ErrDeep {
		t.Error("it has an end")
	}
}
