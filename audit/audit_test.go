package audit

import (
	"reflect"
	"slices"
	"strings"
	"testing"

	"foliot/api"
	"foliot/asm"
	"foliot/cluster"
	"foliot/event"
	"foliot/history"
	"foliot/image"
	"foliot/policy"
	"foliot/store"
	"foliot/value"
)

// The programs that the tests run.
const (
	sleep  = "push 5; timer; wait; return"
	ears   = "start:; signal \"go\"; pop; jump start"
	either = "push 9; timer; either \"stop\"; pack 2; return"
	quick  = "input; return"
	pay    = "input; push 15; call \"pay\"; join; pack 2; return"
	on     = "input; again"
	nap    = "push 1000; timer; signal \"go\"; pop; wait; return"
)

// parsed: a program of lines with `;` between them; one with a colon is a label.
func parsed(t *testing.T, name, lines string) *image.Program {
	t.Helper()
	s := ""
	for _, line := range strings.Split(lines, ";") {
		if line = strings.TrimSpace(line); !strings.HasSuffix(line, ":") {
			line = "  " + line
		}
		s += line + "\n"
	}
	p, f := asm.Parse(s)
	if f.Code != api.OK {
		t.Fatalf("%+v in %q", f, lines)
	}
	x, e := image.New(name, p)
	if e != api.OK {
		t.Fatalf("image.New: %v", e)
	}
	return x
}

// all: the tests' programs.
func all(t *testing.T) map[string]*image.Program {
	t.Helper()
	programs := map[string]*image.Program{}
	for name, lines := range map[string]string{"sleep": sleep, "ears": ears, "either": either, "quick": quick, "pay": pay, "on": on, "nap": nap, "pay3": pay3(t), "zero": "push 0; timer; wait; return"} {
		programs[name] = parsed(t, name, lines)
	}
	return programs
}

// pay3 has an activity done up to three times, with waits of seven ticks, and nine ticks for each try.
func pay3(t *testing.T) string {
	t.Helper()
	n, e := policy.Policy{Tries: 3, First: 7, Factor: 1, Limit: 9}.Number()
	if e != api.OK {
		t.Fatalf("Number: %v", e)
	}
	return "input; push " + value.Print(value.Of(n)) + "; call \"pay\"; join; pack 2; return"
}

// fresh: a cluster of so many workers, with much room.
func fresh(t *testing.T, workers int) *cluster.Cluster {
	t.Helper()
	c, e := cluster.New(2000, workers, 2, all(t))
	if e != api.OK {
		t.Fatalf("cluster.New: %v", e)
	}
	return c
}

// does: steps are OK, one behind the other.
func does(t *testing.T, c *cluster.Cluster, list ...cluster.Step) {
	t.Helper()
	for _, s := range list {
		if e := c.Do(s).Code; e != api.OK {
			t.Fatalf("%+v: %v", s, e)
		}
	}
}

func start(name, program string) cluster.Step {
	return cluster.Step{Kind: cluster.Start, Name: name, Text: program, Value: value.Of(1)}
}

func work(worker int) cluster.Step { return cluster.Step{Kind: cluster.Work, Worker: worker} }

// lines: a run's history.
func lines(c *cluster.Cluster, run int) []string {
	var list []string
	for _, e := range c.Engine().Store().All(run) {
		list = append(list, event.Print(e))
	}
	return list
}

func wantSum(t *testing.T, c *cluster.Cluster, want string) {
	t.Helper()
	if got := value.Print(Sum(c)); got != want {
		t.Errorf("Sum: %s, want %s", got, want)
	}
}

func wantLook(t *testing.T, what string, c *cluster.Cluster, want ...Finding) {
	t.Helper()
	state := string(c.Engine().Store().State())
	if got := Look(c); !slices.Equal(got, want) {
		t.Errorf("%s: %+v, want %+v", what, got, want)
	}
	if string(c.Engine().Store().State()) != state {
		t.Errorf("%s: it is another one", what)
	}
}

// The document's example.
func TestExample(t *testing.T) {
	c := fresh(t, 2)
	does(t, c, start("w", "sleep"))
	if _, ok := Drive(c, value.Text("done"), 100); !ok {
		t.Error("it isn't driven to its end")
	}
	wantLook(t, "the end", c)
	if l := Left(c, all(t)); len(l) != 0 {
		t.Errorf("left: %v", l)
	}
	wantSum(t, c, "[1 1 10]")
}

// P28.2: what is found, in which order.
func TestLook(t *testing.T) {
	c := fresh(t, 2)
	wantLook(t, "nothing", c)
	does(t, c, start("w", "sleep"), start("v", "pay"), work(1), work(1), cluster.Step{Kind: cluster.Tick, N: 5})
	wantLook(t, "two runs", c)
	// Somebody else writes what no server does: the server doesn't know of it.
	first := api.Event{Time: 3, Kind: api.RunStarted, Name: "p"}
	writes(t, c.Engine().Store(),
		store.Change{Kind: store.Begin, Name: "x", Events: []api.Event{first, of(api.TaskStarted, 3, 1, 1), of(api.TimerFired, 3, 1, 0), of(api.ActivityCompleted, 3, 1, 0)}},
		store.Change{Kind: store.Begin, Name: "y", Events: []api.Event{first, of(api.TimerStarted, 3, 1, 5)}},
		store.Change{Kind: store.Begin, Name: "z", Events: []api.Event{first, of(api.TimerStarted, 3, 1, 5), of(api.TimerFired, 4, 1, 0), of(api.ActivityScheduled, 3, 1, 0), of(api.ActivityFailed, 4, 1, 0), of(api.ActivityTimedOut, 4, 1, 0)}})
	wantLook(t, "three more", c,
		Finding{3, "timers", api.ErrMissing}, Finding{3, "activities", api.ErrMissing}, Finding{3, "tasks", api.ErrState},
		Finding{5, "timers", api.ErrRange}, Finding{5, "activities", api.ErrClosed},
		Finding{0, "server", api.ErrState})
	if got := Look(c); got[5].What != "server" || &got[0] == &Look(c)[0] {
		t.Error("it shares memory")
	}
}

// P28.2: the chain of a run, and the server where nothing is wrong with any run.
func TestLookChain(t *testing.T) {
	c := fresh(t, 1)
	strange(t, c.Disk(), history.Seed("v", 1), api.Event{Time: 0, Kind: api.RunStarted, Name: "ears"})
	does(t, c, cluster.Step{Kind: cluster.Crash})
	wantLook(t, "another seed", c, Finding{1, "chain", api.ErrSum})
	writes(t, c.Engine().Store(), store.Change{Kind: store.Append, Run: 1, Events: []api.Event{of(api.TaskCompleted, 1, 0, 0), of(api.CancelRequested, 1, 0, 0)}})
	wantLook(t, "and more", c, Finding{1, "tasks", api.ErrState}, Finding{1, "chain", api.ErrSum}, Finding{0, "server", api.ErrState})

	c = fresh(t, 1)
	does(t, c, start("w", "ears"))
	writes(t, c.Engine().Store(), store.Change{Kind: store.Append, Run: 1, Events: []api.Event{of(api.CancelRequested, 1, 0, 0)}})
	wantLook(t, "what the server doesn't know", c, Finding{0, "server", api.ErrState})
}

// numbered: events with the IDs 1, 2 and so on.
func numbered(list ...api.Event) []api.Event {
	for i := range list {
		list[i].ID = i + 1
	}
	return list
}

// P28.4: who is idle.
func TestIdle(t *testing.T) {
	begin := api.Event{Time: 2, Kind: api.RunStarted, Name: "p", Value: value.Of(1)}
	goes := api.Event{Time: 3, Kind: api.SignalReceived, Name: "go"}
	timer, long := of(api.TimerStarted, 2, 1, 7), of(api.TimerStarted, 2, 1, 1002)
	for name, x := range map[string]struct {
		lines string
		list  []api.Event
		want  bool
	}{
		"nothing":                      {ears, nil, false},
		"it waits for a signal":        {ears, numbered(begin), true},
		"and again":                    {ears, numbered(begin, goes, goes), true},
		"though its task isn't done":   {ears, numbered(begin, goes, of(api.TaskScheduled, 3, 0, 1)), true},
		"it waits for a timer":         {sleep, numbered(begin, timer), false},
		"the timer isn't written yet":  {nap, numbered(begin), false},
		"it is":                        {nap, numbered(begin, long), true},
		"now it waits for that":        {nap, numbered(begin, long, goes), false},
		"it waits for both":            {either, numbered(begin, of(api.TimerStarted, 2, 1, 11)), false},
		"it waits for an activity":     {pay, numbered(begin, api.Event{Time: 2, Kind: api.ActivityScheduled, A: 1, B: 15, Name: "pay", Value: value.Of(1)}), false},
		"its end isn't written yet":    {quick, numbered(begin), false},
		"it is over":                   {quick, numbered(begin, api.Event{Time: 2, Kind: api.RunCompleted, Value: value.Of(1)}), true},
		"it is terminated":             {sleep, numbered(begin, of(api.RunTerminated, 3, 0, 0)), true},
		"it has timed out":             {sleep, numbered(begin, timer, of(api.RunTimedOut, 3, 0, 0)), true},
		"another end":                  {quick, numbered(begin, api.Event{Time: 2, Kind: api.RunCompleted, Value: value.Of(2)}), false},
		"behind its end":               {quick, numbered(begin, api.Event{Time: 2, Kind: api.RunCompleted, Value: value.Of(1)}, goes), false},
		"what it doesn't want":         {ears, numbered(begin, timer), false},
		"no beginning":                 {ears, numbered(goes), false},
		"no numbers":                   {ears, []api.Event{{Time: 2, Kind: api.RunStarted}}, false},
		"a program that may go wrong":  {"x:; nop; jump x", numbered(begin), false},
		"and one that is over, though": {"nop", numbered(begin, of(api.RunTerminated, 3, 0, 0)), false},
	} {
		if got := Idle(parsed(t, "p", x.lines).Image(), x.list...); got != x.want {
			t.Errorf("%s: %v", name, got)
		}
	}
	if Idle(api.Image{}, begin) || Idle(api.Image{}) {
		t.Error("no program")
	}
}

// P28.4: which runs are left, of which programs.
func TestLeft(t *testing.T) {
	c, programs := fresh(t, 1), all(t)
	want := func(what string, programs map[string]*image.Program, list ...int) {
		t.Helper()
		if got := Left(c, programs); !slices.Equal(got, list) {
			t.Errorf("%s: %v, want %v", what, got, list)
		}
	}
	want("nothing", programs)
	does(t, c, start("a", "sleep"), start("b", "ears"), start("c", "quick"), start("d", "nap"), start("e", "either"), start("f", "pay"), start("g", "sleep"))
	want("they began", programs, 1, 3, 4, 5, 6, 7)
	for range 7 {
		does(t, c, work(1))
	}
	want("their tasks are done", programs, 1, 5, 6, 7)
	does(t, c, cluster.Step{Kind: cluster.Terminate, Name: "g"})
	want("one is terminated", programs, 1, 5, 6)
	want("no programs", nil)
	want("no program of any", map[string]*image.Program{"x": programs["sleep"]})
	want("some", map[string]*image.Program{"sleep": programs["sleep"], "either": nil, "ears": programs["ears"]}, 1)
	want("another program of that name", map[string]*image.Program{"ears": programs["sleep"], "nap": programs["quick"], "quick": programs["sleep"]}, 2, 4)
	does(t, c, cluster.Step{Kind: cluster.Signal, Name: "b", Text: "go"}, cluster.Step{Kind: cluster.Signal, Name: "d", Text: "go"})
	want("signals", programs, 1, 4, 5, 6)
	got := Left(c, programs)
	got[0] = 99
	want("what was answered is nobody's", programs, 1, 4, 5, 6)
}

// P1: in a log that no server wrote there may be a run without events.
func TestLeftStrange(t *testing.T) {
	c := fresh(t, 1)
	strange(t, c.Disk(), history.Seed("w", 1))
	does(t, c, cluster.Step{Kind: cluster.Crash})
	programs := all(t)
	programs[""] = programs["sleep"]
	if got := Left(c, programs); !slices.Equal(got, []int{1}) {
		t.Errorf("left: %v", got)
	}
	wantLook(t, "no events", c)
	wantSum(t, c, "[1 0 0]")
}

// P28.4: how much there is.
func TestSum(t *testing.T) {
	c := fresh(t, 1)
	wantSum(t, c, "[0 0 0]")
	does(t, c, start("a", "quick"), start("b", "ears"))
	wantSum(t, c, "[2 0 4]")
	does(t, c, work(1), work(1))
	wantSum(t, c, "[2 1 9]")
	does(t, c, cluster.Step{Kind: cluster.Terminate, Name: "b"})
	wantSum(t, c, "[2 2 10]")
	does(t, c, cluster.Step{Kind: cluster.Forget, N: 1})
	wantSum(t, c, "[1 1 5]")
	v := Sum(c)
	v.List[0] = value.Of(9)
	if wantSum(t, c, "[1 1 5]"); reflect.DeepEqual(v, Sum(c)) {
		t.Error("it shares memory")
	}
}
