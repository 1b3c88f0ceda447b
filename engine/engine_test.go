package engine

import (
	"math"
	"slices"
	"strings"
	"testing"

	"foliot/api"
	"foliot/asm"
	"foliot/disk"
	"foliot/event"
	"foliot/image"
	"foliot/matching"
	"foliot/policy"
	"foliot/queue"
	"foliot/store"
	"foliot/value"
)

// The programs that the tests run. Pay has an activity done, without end; try has it tried three times, with a wait of two, then six ticks, and nine ticks for each try.
const (
	sleep = "push 5; timer; wait; return"
	ears  = "start:; signal \"go\"; pop; jump start"
	on    = "signal \"go\"; again"
	pay   = "input; push 15; call \"pay\"; join; pack 2; return"
	pay3  = "input; push 84672546; call \"pay\"; join; pack 2; return"
	quick = "input; return"
	fails = "fail \"why\""
)

// policyOf: a policy as a number.
func policyOf(t *testing.T, p policy.Policy) int64 {
	t.Helper()
	n, e := p.Number()
	if e != api.OK {
		t.Fatalf("Number of %+v: %v", p, e)
	}
	return n
}

// calls: a program that has an activity done, by a policy.
func calls(t *testing.T, p policy.Policy) string {
	return "input; push " + value.Print(value.Of(policyOf(t, p))) + "; call \"pay\"; join; pack 2; return"
}

// parsed: a program of lines with `;` between them; one with a colon is a label.
func parsed(t *testing.T, name, lines string) *image.Program {
	t.Helper()
	s := ""
	for _, line := range strings.Split(lines, ";") {
		if line = strings.TrimSpace(line); !strings.HasSuffix(line, ":") {
			line = "  " + line
		}
		s += line + "\n"
	}
	p, f := asm.Parse(s)
	if f.Code != api.OK {
		t.Fatalf("%+v in %q", f, lines)
	}
	x, e := image.New(name, p)
	if e != api.OK {
		t.Fatalf("New(%s): %v", name, e)
	}
	return x
}

// programs: those of these names and lines, one behind the other.
func programs(t *testing.T, list ...string) Programs {
	t.Helper()
	p := Programs{}
	for i := 0; i < len(list); i += 2 {
		if e := p.Add(parsed(t, list[i], list[i+1])); e != api.OK {
			t.Fatalf("Add(%s): %v", list[i], e)
		}
	}
	return p
}

// all: the tests' programs.
func all(t *testing.T) Programs {
	t.Helper()
	three := calls(t, policy.Policy{Tries: 3, First: 2, Factor: 3, Limit: 9})
	return programs(t, "sleep", sleep, "ears", ears, "on", on, "pay", pay, "pay3", three, "quick", quick, "fails", fails)
}

func newDisk(t *testing.T, sectors int) *disk.Disk {
	t.Helper()
	d, e := disk.New(sectors)
	if e != api.OK {
		t.Fatalf("disk.New(%d): %v", sectors, e)
	}
	return d
}

func open(t *testing.T, d *disk.Disk, p Programs, now int64) *Engine {
	t.Helper()
	x, e := Open(d, p, now)
	if e != api.OK {
		t.Fatalf("Open: %v", e)
	}
	return x
}

// fresh: a server with nothing, at a tick.
func fresh(t *testing.T, now int64) *Engine {
	t.Helper()
	return open(t, newDisk(t, 2000), all(t), now)
}

func want(t *testing.T, what string, got, want api.Errno) {
	t.Helper()
	if got != want {
		t.Fatalf("%s: %v, want %v", what, got, want)
	}
}

// starts: a workflow begins, of a program: its number.
func starts(t *testing.T, x *Engine, name, program string) int {
	t.Helper()
	n, e := x.Start(name, program, value.Text("in"), 0, "")
	want(t, "Start", e, api.OK)
	return n
}

func polls(t *testing.T, x *Engine, id int) Task {
	t.Helper()
	task, e := x.Poll(id)
	want(t, "Poll", e, api.OK)
	return task
}

// does: a worker takes a task, and completes it.
func does(t *testing.T, x *Engine, id int) {
	t.Helper()
	task := polls(t, x, id)
	r, e := Wants(task)
	want(t, "Wants", e, api.OK)
	want(t, "Complete", x.Complete(task.Token, r.More, r.Commands...), api.OK)
}

func takes(t *testing.T, x *Engine, id int) Call {
	t.Helper()
	c, e := x.PollCall(id)
	want(t, "PollCall", e, api.OK)
	return c
}

func ticks(t *testing.T, x *Engine, n int) {
	t.Helper()
	was := x.Now()
	want(t, "Tick", x.Tick(n), api.OK)
	if x.Now() != was+int64(n) {
		t.Fatalf("Now: %d, want %d", x.Now(), was+int64(n))
	}
}

// wantEvents: a run's history from an event on.
func wantEvents(t *testing.T, x *Engine, n, from int, lines ...string) {
	t.Helper()
	var got []string
	for i, e := range x.Store().All(n) {
		if i+1 >= from {
			got = append(got, event.Print(e))
		}
	}
	if !slices.Equal(got, lines) {
		t.Fatalf("the run %d:\n%s\nwant\n%s", n, strings.Join(got, "\n"), strings.Join(lines, "\n"))
	}
	if !x.Right() {
		t.Fatal("not right")
	}
}

func wantWaiting(t *testing.T, x *Engine, list ...queue.Task) {
	t.Helper()
	if got := x.Match().Waiting(); !slices.Equal(got, list) {
		t.Fatalf("Waiting: %v, want %v", got, list)
	}
}

// wantWhere: a task waits for a worker (0: for anybody).
func wantWhere(t *testing.T, x *Engine, task queue.Task, worker int) {
	t.Helper()
	if got, ok := x.Match().Where(task); !ok || got != worker {
		t.Fatalf("Where(%v): %d, %v, want %d", task, got, ok, worker)
	}
}

func wantDue(t *testing.T, x *Engine, due int64, some bool) {
	t.Helper()
	if got, ok := x.Due(); got != due || ok != some {
		t.Fatalf("Due: %d, %v, want %d, %v", got, ok, due, some)
	}
}

// picture is all of a server that any call tells.
type picture struct {
	now     int64
	state   string
	waiting []queue.Task
	leases  []matching.Lease
	given   uint64
	due     int64
	some    bool
	timers  int
}

func pictureOf(x *Engine) picture {
	p := picture{now: x.Now(), state: string(x.Store().State()), waiting: x.Match().Waiting(), leases: x.Match().Leases(), given: x.Match().Given(), timers: x.Timers().Len()}
	p.due, p.some = x.Due()
	return p
}

// same: nothing has changed.
func (p picture) same(t *testing.T, x *Engine) {
	t.Helper()
	q := pictureOf(x)
	if p.now != q.now || p.state != q.state || p.given != q.given || p.due != q.due || p.some != q.some || p.timers != q.timers ||
		!slices.Equal(p.waiting, q.waiting) || !slices.Equal(p.leases, q.leases) {
		t.Fatalf("what is refused changes something:\n%+v\n%+v", p.leases, q.leases)
	}
	if !x.Right() {
		t.Fatal("not right")
	}
}

// The chapter's example.
func TestExample(t *testing.T) {
	x := fresh(t, 0)
	n := starts(t, x, "w", "sleep")
	does(t, x, 1)
	ticks(t, x, 5)
	does(t, x, 1)
	wantEvents(t, x, n, 1,
		`1 @0 run-started 0 0 "sleep" "" "in"`,
		`2 @0 task-scheduled 1`,
		`3 @0 task-started 1 1`,
		`4 @0 task-completed 1 0`,
		`5 @0 timer-started 1 5`,
		`6 @5 timer-fired 1`,
		`7 @5 task-scheduled 1`,
		`8 @5 task-started 1 1`,
		`9 @5 task-completed 1 0`,
		`10 @5 run-completed 5`)
	wantWaiting(t, x)
	wantDue(t, x, 0, false)
}

// The document's tenth example: the power goes while it sleeps.
func TestExampleOfAll(t *testing.T) {
	d := newDisk(t, 200)
	x := open(t, d, all(t), 0)
	n := starts(t, x, "w", "sleep")
	does(t, x, 1)
	d.Crash(nil, 0, 0)
	d.Up()
	x = open(t, d, all(t), 0)
	wantDue(t, x, 5, true)
	ticks(t, x, 5)
	does(t, x, 1)
	if list := x.Store().All(n); len(list) != 10 || !x.State(n).Closed() {
		t.Errorf("%d events", len(list))
	}
}

func TestNumbers(t *testing.T) {
	if MaxTicks != 1048576 {
		t.Errorf("MaxTicks: %d", MaxTicks)
	}
}

// P25.1: programs that may be added.
func TestAdd(t *testing.T) {
	p := Programs{}
	good := parsed(t, "a", quick)
	want(t, "Add of none", p.Add(nil), api.ErrMissing)
	want(t, "Add", p.Add(good), api.OK)
	want(t, "Add once more", p.Add(good), api.ErrTwice)
	want(t, "Add of one by that name", p.Add(parsed(t, "a", "nop")), api.ErrTwice)
	want(t, "Add of one without an end", p.Add(parsed(t, "b", "nop")), api.ErrEnd)
	want(t, "Add of one without a value", p.Add(parsed(t, "b", "return")), api.ErrStack)
	want(t, "Add of one that goes round", p.Add(parsed(t, "b", "start:; jump start")), api.ErrLoop)
	if len(p) != 1 || p["a"] != good {
		t.Errorf("%d programs", len(p))
	}
	want(t, "Add", p.Add(parsed(t, "", ears)), api.OK)
	want(t, "Add", p.Add(parsed(t, "b", sleep)), api.OK)
	if len(p) != 3 {
		t.Errorf("%d programs", len(p))
	}
	if (Programs)(nil).Add(good) == api.OK {
		t.Error("Add to no map")
	}
}

// P25.1: programs that are added later may be run, too; others are none.
func TestPrograms(t *testing.T) {
	p := programs(t, "sleep", sleep)
	p["gone"] = nil
	x := open(t, newDisk(t, 200), p, 0)
	_, e := x.Start("w", "gone", api.Value{}, 0, "")
	want(t, "Start", e, api.ErrMissing)
	_, e = x.Start("w", "ears", api.Value{}, 0, "")
	want(t, "Start", e, api.ErrMissing)
	p.Add(parsed(t, "ears", ears))
	_, e = x.Start("w", "ears", api.Value{}, 0, "")
	want(t, "Start", e, api.OK)
	x = open(t, newDisk(t, 200), nil, 0)
	_, e = x.Start("w", "ears", api.Value{}, 0, "")
	want(t, "Start", e, api.ErrMissing)
}

// P25.1: Open's errors, and their order.
func TestOpenErrors(t *testing.T) {
	small := newDisk(t, 33)
	down := newDisk(t, 100)
	down.Fuse(0)
	down.Flush()
	spoilt := newDisk(t, 100)
	starts(t, open(t, spoilt, all(t), 0), "w", "sleep")
	spoilt.Spoil(2, 20, 1)
	for _, c := range []struct {
		d    *disk.Disk
		now  int64
		want api.Errno
	}{
		{small, -1, api.ErrRange}, {down, -1, api.ErrRange}, {down, math.MinInt64, api.ErrRange},
		{down, event.MaxTime + 1, api.ErrRange}, {down, math.MaxInt64, api.ErrRange},
		{small, 0, api.ErrRange}, {down, 0, api.ErrDown}, {down, event.MaxTime, api.ErrDown}, {spoilt, 0, api.ErrSum},
	} {
		if x, e := Open(c.d, all(t), c.now); x != nil || e != c.want {
			t.Errorf("Open at %d: %v, %v, want %v", c.now, x, e, c.want)
		}
	}
}

// P1: histories that no server wrote: some may be, of others Open answers an error.
func TestOpenOthers(t *testing.T) {
	begin := api.Event{Kind: api.RunStarted, Name: "p", Text: "x"}
	for code, list := range map[api.Errno][]api.Event{
		api.OK:         {begin, {Kind: api.RunCompleted}},
		api.ErrState:   {begin, {Kind: api.TaskStarted, B: 1}},
		api.ErrMissing: {begin, {Kind: api.TimerCanceled, A: 1}},
	} {
		d := newDisk(t, 100)
		s, e := store.Open(d)
		want(t, "store.Open", e, api.OK)
		s.Write(store.Batch{{Kind: store.Begin, Name: "w", Events: list}})
		x, e := Open(d, all(t), 0)
		if e != code || (x == nil) != (code != api.OK) {
			t.Fatalf("Open: %v, want %v", e, code)
		}
		if code == api.OK {
			wantDue(t, x, 0, false)
			ticks(t, x, 1000)
			wantEvents(t, x, 1, 1, `1 @0 run-started 0 0 "p" "x" nil`, `2 @0 run-completed nil`)
		}
	}
	d := newDisk(t, 4096)
	s, e := store.Open(d)
	want(t, "store.Open", e, api.OK)
	for n := range 65 { // more timers than layer 16 has room for
		s.Write(store.Batch{{Kind: store.Begin, Events: []api.Event{begin}}})
		for from := range int64(2) {
			list := make([]api.Event, 128)
			for i := range list {
				list[i] = api.Event{Kind: api.TimerStarted, A: from*128 + int64(i) + 1}
			}
			s.Write(store.Batch{{Kind: store.Append, Run: n + 1, Events: list}})
		}
	}
	if x, e := Open(d, all(t), 0); x != nil || e != api.ErrFull {
		t.Errorf("Open: %v", e)
	}
}

// P25.1: a server with nothing.
func TestOpenEmpty(t *testing.T) {
	for _, now := range []int64{0, 7, event.MaxTime} {
		x := fresh(t, now)
		if x.Now() != now || !x.Right() || x.Timers().Len() != 0 || len(x.Store().Runs()) != 0 || x.Match().Given() != 0 {
			t.Errorf("a server at %d", now)
		}
		for _, n := range []int{0, 1, -1, math.MinInt, math.MaxInt} {
			if x.State(n) != nil {
				t.Errorf("State(%d)", n)
			}
		}
		wantWaiting(t, x)
		wantDue(t, x, 0, false)
	}
}

// P25.1: a server that is opened anew knows what the histories say: nobody has a task, or has a run in mind, and no activity was tried.
func TestOpenAnew(t *testing.T) {
	d := newDisk(t, 500)
	x := open(t, d, all(t), 3)
	starts(t, x, "a", "sleep")
	starts(t, x, "b", "pay3")
	starts(t, x, "c", "ears")
	starts(t, x, "d", "ears")
	starts(t, x, "e", "quick")
	for range 5 {
		does(t, x, 1)
	}
	takes(t, x, 2)
	want(t, "Signal", x.Signal("c", "go", value.Of(1)), api.OK)
	want(t, "Signal", x.Signal("d", "go", value.Of(1)), api.OK)
	polls(t, x, 1) // the task of c
	wantWhere(t, x, flow(4), 1)
	state := string(x.Store().State())

	x = open(t, d, all(t), 9)
	if x.Now() != 9 || string(x.Store().State()) != state || !x.Right() {
		t.Error("not what it was")
	}
	if l := x.Match().Leases(); len(l) != 0 || x.Match().Given() != 0 {
		t.Errorf("Leases: %v", l)
	}
	wantWaiting(t, x, activity(2, 1), flow(4))
	wantWhere(t, x, flow(4), 0)
	if due, ok := x.Timers().Next(); due != 8 || !ok || x.Timers().Len() != 1 {
		t.Errorf("Next: %d, %v", due, ok)
	}
	for n, closed := range []bool{false, false, false, false, true} {
		if s := x.State(n + 1); s == nil || s.Closed() != closed || s.Len() != len(x.Store().All(n+1)) {
			t.Errorf("State(%d)", n+1)
		}
	}
	if c := takes(t, x, 2); c.Try != 1 || c.Token != 1 {
		t.Errorf("PollCall: %+v", c)
	}
	ticks(t, x, 0) // the task of c is lost, as nobody has it
	wantWhere(t, x, flow(3), 0)
	wantWhere(t, x, flow(1), 0)
}

// P25.1: what is handed out is the server's own.
func TestOwn(t *testing.T) {
	x := fresh(t, 0)
	s, q, m := x.Store(), x.Timers(), x.Match()
	n := starts(t, x, "w", "sleep")
	state := x.State(n)
	does(t, x, 1)
	if x.Store() != s || x.Timers() != q || x.Match() != m || x.State(n) != state {
		t.Error("other ones")
	}
	if q.Len() != 1 || state.Len() != 5 || s.Next() != 2 || m.Given() != 1 {
		t.Error("they don't follow")
	}
}

// P25.1: Right tells of each thing whether it is what the histories say.
func TestRight(t *testing.T) {
	prepared := func() *Engine {
		x := fresh(t, 0)
		starts(t, x, "w", "sleep")
		starts(t, x, "v", "pay")
		starts(t, x, "u", "ears")
		does(t, x, 1)
		does(t, x, 1)
		if !x.Right() {
			t.Fatal("not right")
		}
		return x
	}
	for what, spoil := range map[string]func(*Engine){
		"a timer is gone": func(x *Engine) { x.Timers().Drop(1) },
		"a timer more":    func(x *Engine) { x.Timers().Apply(3, api.Event{Kind: api.TimerStarted, A: 1, B: 3}) },
		"a timer is later": func(x *Engine) {
			x.Timers().Drop(1)
			x.Timers().Apply(1, api.Event{Kind: api.TimerStarted, A: 1, B: 6})
		},
		"a run is gone":     func(x *Engine) { delete(x.runs, 1) },
		"a run more":        func(x *Engine) { x.runs[4] = x.runs[1] },
		"another run":       func(x *Engine) { x.runs[1] = x.runs[2] },
		"by another number": func(x *Engine) { x.runs[4] = x.runs[1]; delete(x.runs, 1) },
		"an event more":     func(x *Engine) { x.State(3).Apply(api.Event{Kind: api.TaskStarted, B: 1}) },
		"the store has a run": func(x *Engine) {
			x.Store().Write(store.Batch{{Kind: store.Begin, Events: []api.Event{{Kind: api.RunStarted}}}})
		},
		"the store has an end": func(x *Engine) {
			x.Store().Write(store.Batch{{Kind: store.Append, Run: 2, Events: []api.Event{{Kind: api.RunCompleted}}}})
		},
		"what may not be": func(x *Engine) {
			x.Store().Write(store.Batch{{Kind: store.Append, Run: 2, Events: []api.Event{{Kind: api.TaskStarted}}}})
		},
	} {
		x := prepared()
		spoil(x)
		if x.Right() {
			t.Errorf("right, though %s", what)
		}
	}
}

// P25.1: two states that differ in one thing that their events say.
func TestSameStates(t *testing.T) {
	begin := []api.Event{{Kind: api.RunStarted, Name: "p"}, {Kind: api.TaskScheduled, B: 1}, {Kind: api.TaskStarted, A: 1, B: 1}, {Kind: api.TaskCompleted}}
	act := api.Event{Kind: api.ActivityScheduled, A: 1, B: 2, Name: "a", Value: value.Of(3)}
	other := func(f func(*api.Event)) []api.Event { e := act; f(&e); return append(slices.Clip(begin), e) }
	timer := func(due int64) []api.Event {
		return append(slices.Clip(begin), api.Event{Kind: api.TimerStarted, A: 1, B: due})
	}
	with := func(kinds ...int) []api.Event {
		list := slices.Clip(begin)
		for _, k := range kinds {
			list = append(list, api.Event{Kind: k, B: min(1, int64(k)%2)})
		}
		return list
	}
	named := slices.Clone(begin)
	named[0].Name = "q"
	cron := slices.Clone(begin)
	cron[0].Text = "x"
	more := slices.Clone(begin)
	more[3].B = 1
	tried := slices.Clone(begin[:3])
	tried[2].A = 2
	later := slices.Clone(begin[:2])
	later[1].B = 2
	lists := [][]api.Event{
		nil, begin[:1], begin[:2], begin[:3], begin, named, cron, more, tried, later, timer(4), timer(5), append(timer(5), api.Event{Time: 5, Kind: api.TimerFired, A: 1}),
		append(timer(5), api.Event{Kind: api.TimerCanceled, A: 1}),
		append(slices.Clip(begin), act), other(func(e *api.Event) { e.B = 3 }), other(func(e *api.Event) { e.Name = "b" }), other(func(e *api.Event) { e.Value.N = 4 }), other(func(e *api.Event) { e.Time = 1 }),
		append(slices.Clip(begin), api.Event{Kind: api.SignalReceived}), append(slices.Clip(begin), api.Event{Kind: api.CancelRequested}), append(slices.Clip(begin), api.Event{Kind: api.RunCompleted}),
		with(api.TaskScheduled),
	}
	for i, a := range lists {
		for k, b := range lists {
			s, e := statesOf(map[int][]api.Event{1: a, 2: b})
			want(t, "statesOf", e, api.OK)
			if same(s[1], s[2]) != (i == k) {
				t.Errorf("same of %d and %d: %v", i, k, i != k)
			}
		}
	}
}
