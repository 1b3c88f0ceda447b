package model

import (
	"math"
	"math/rand"
	"slices"
	"strings"
	"testing"

	"foliot/api"
	"foliot/asm"
	"foliot/command"
	"foliot/event"
	"foliot/image"
	"foliot/machine"
	"foliot/value"
)

// The programs that the tests run.
const (
	sleep  = "push 5; timer; wait; return"
	ears   = "start:; signal \"go\"; pop; jump start"
	either = "push 9; timer; dup; store 0; either \"stop\"; unless late; load 0; cancel; late:; return"
	down   = "input; unless l1; input; push 1; sub; again; l1:; now; return"
	quick  = "input; return"
	pay    = "input; push 15; call \"pay\"; join; pack 2; return"
	early  = "push 4; timer; cancel; pop; push 6; timer; pop; signal \"go\"; return" // its timer 1 is canceled at once
	two    = "push 3; timer; store 0; push 8; timer; store 1; signal \"go\"; pop; load 0; cancel; pop; load 1; wait; return"
	fails  = "signal \"go\"; pop; fail \"why\""
	traps  = "signal \"go\"; push 1; add; return"
)

// program: that of lines with `;` between them; one with a colon is a label.
func program(t *testing.T, lines string) api.Image {
	t.Helper()
	s := ""
	for _, line := range strings.Split(lines, ";") {
		if line = strings.TrimSpace(line); !strings.HasSuffix(line, ":") {
			line = "  " + line
		}
		s += line + "\n"
	}
	p, f := asm.Parse(s)
	if f.Code != api.OK {
		t.Fatalf("%+v in %q", f, lines)
	}
	return p
}

// named: a program with a name.
func named(t *testing.T, name, lines string) *image.Program {
	t.Helper()
	x, e := image.New(name, program(t, lines))
	if e != api.OK {
		t.Fatalf("image.New: %v", e)
	}
	return x
}

func started(at int64, v api.Value) api.Event {
	return api.Event{Time: at, Kind: api.RunStarted, Name: "flow", Value: v}
}

func of(kind int, at, a, b int64) api.Event { return api.Event{Time: at, Kind: kind, A: a, B: b} }

func fires(at, id int64) api.Event { return of(api.TimerFired, at, id, 0) }

func signal(at int64, name string, v api.Value) api.Event {
	return api.Event{Time: at, Kind: api.SignalReceived, Name: name, Value: v}
}

func ends(at int64, kind int, v api.Value) api.Event {
	return api.Event{Time: at, Kind: kind, Value: v}
}

// numbered: events with the IDs 1, 2 and so on.
func numbered(list ...api.Event) []api.Event {
	list = slices.Clone(list)
	for i := range list {
		list[i].ID = i + 1
	}
	return list
}

// printed: events as lines.
func printed(list []api.Event) []string {
	var lines []string
	for _, e := range list {
		lines = append(lines, event.Print(e))
	}
	return lines
}

// ran: a program that is run alone, and with which nothing is wrong.
func ran(t *testing.T, lines string, outside ...api.Event) []api.Event {
	t.Helper()
	list, e := Run(program(t, lines), numbered(outside...)...)
	if e != api.OK {
		t.Fatalf("Run of %q: %v", lines, e)
	}
	return list
}

// The document's example.
func TestExample(t *testing.T) {
	got := printed(ran(t, sleep, started(2, api.Value{}), fires(7, 1)))
	want := []string{`1 @2 run-started 0 0 "flow" "" nil`, `2 @2 timer-started 1 7`, `3 @7 timer-fired 1`, `4 @7 run-completed 7`}
	if !slices.Equal(got, want) {
		t.Errorf("%q", got)
	}
}

// P27.1: what is wanted stands behind what it is wanted by.
func TestRun(t *testing.T) {
	begin, go1 := started(2, value.Of(1)), signal(4, "go", value.Text("x"))
	const first = `1 @2 run-started 0 0 "flow" "" 1`
	for name, x := range map[string]struct {
		lines   string
		outside []api.Event
		want    []string
	}{
		"nothing": {sleep, nil, nil},
		"its beginning has all fields": {ears, []api.Event{{Time: 3, Kind: api.RunStarted, A: 7, B: 8, Name: "n", Text: "t", Value: value.List(value.Of(5))}},
			[]string{`1 @3 run-started 7 8 "n" "t" [5]`}},
		"a signal for nobody": {sleep, []api.Event{begin, go1},
			[]string{first, "2 @2 timer-started 1 7", `3 @4 signal-received "go" "x"`}},
		"several by one event": {two, []api.Event{begin, go1, fires(11, 2)},
			[]string{first, "2 @2 timer-started 1 5", "3 @2 timer-started 2 10", `4 @4 signal-received "go" "x"`, "5 @4 timer-canceled 1", "6 @11 timer-fired 2", "7 @11 run-completed 11"}},
		"a timer that was canceled doesn't fire": {two, []api.Event{begin, go1, fires(5, 1), fires(11, 2)},
			[]string{first, "2 @2 timer-started 1 5", "3 @2 timer-started 2 10", `4 @4 signal-received "go" "x"`, "5 @4 timer-canceled 1", "6 @11 timer-fired 2", "7 @11 run-completed 11"}},
		"a timer that fired isn't canceled": {two, []api.Event{begin, fires(5, 1), signal(6, "go", api.Value{}), fires(11, 2)},
			[]string{first, "2 @2 timer-started 1 5", "3 @2 timer-started 2 10", "4 @5 timer-fired 1", `5 @6 signal-received "go" nil`, "6 @11 timer-fired 2", "7 @11 run-completed 11"}},
		"one that fired ahead of its beginning isn't, either": {"signal \"go\"; pop; push 5; timer; cancel; return", []api.Event{begin, fires(3, 1), go1},
			[]string{first, "2 @3 timer-fired 1", `3 @4 signal-received "go" "x"`, "4 @4 timer-started 1 9", "5 @4 run-completed 1"}},
		"and what fired fires again": {early, []api.Event{begin, fires(8, 2), fires(9, 2), fires(9, 3)},
			[]string{first, "2 @2 timer-started 1 6", "3 @2 timer-canceled 1", "4 @2 timer-started 2 8", "5 @8 timer-fired 2", "6 @9 timer-fired 2", "7 @9 timer-fired 3"}},
		"an activity": {pay, []api.Event{begin, {Time: 5, Kind: api.ActivityFailed, A: 1, Name: "no"}},
			[]string{first, `2 @2 activity-scheduled 1 15 "pay" 1`, `3 @5 activity-failed 1 "no"`, `4 @5 run-completed ["no" 0]`}},
		"an activity that is done, behind one that isn't wanted": {pay, []api.Event{begin, of(api.ActivityTimedOut, 4, 2, 0), {Time: 5, Kind: api.ActivityCompleted, A: 1, Value: value.Of(8)}},
			[]string{first, `2 @2 activity-scheduled 1 15 "pay" 1`, `3 @4 activity-timed-out 2`, `4 @5 activity-completed 1 8`, `5 @5 run-completed [8 1]`}},
		"the next run has no number": {down, []api.Event{begin},
			[]string{first, "2 @2 continued-as-new 0 0"}},
		"a fail":                {fails, []api.Event{begin, go1}, []string{first, `2 @4 signal-received "go" "x"`, `3 @4 run-failed "why"`}},
		"a trap":                {traps, []api.Event{begin, go1}, []string{first, `2 @4 signal-received "go" "x"`, `3 @4 run-failed "trap type"`}},
		"asked to end":          {ears, []api.Event{begin, of(api.CancelRequested, 3, 0, 0)}, []string{first, "2 @3 cancel-requested"}},
		"ended from outside":    {sleep, []api.Event{begin, {Time: 3, Kind: api.RunTerminated, Name: "y"}, fires(7, 1)}, []string{first, "2 @2 timer-started 1 7", `3 @3 run-terminated "y"`}},
		"it took too long":      {sleep, []api.Event{begin, of(api.RunTimedOut, 3, 0, 0), started(4, api.Value{})}, []string{first, "2 @2 timer-started 1 7", `3 @3 run-timed-out`}},
		"over by what it wants": {quick, []api.Event{begin, go1, begin, {Kind: 99}, of(api.TaskStarted, -1, 0, 0), {}}, []string{first, "2 @2 run-completed 1"}},
	} {
		list, e := Run(program(t, x.lines), numbered(x.outside...)...)
		if got := printed(list); e != api.OK || !slices.Equal(got, x.want) {
			t.Errorf("%s: %v, %q, want %q", name, e, got, x.want)
		}
	}
}

// P27.1: what layer 14 refuses is refused, at the event at which it is, and nothing is told then.
func TestRunErrors(t *testing.T) {
	begin := started(2, api.Value{})
	with := func(e api.Event, change func(e *api.Event)) api.Event {
		change(&e)
		return e
	}
	for name, x := range map[string]struct {
		p       api.Image
		outside []api.Event
		want    api.Errno
	}{
		"no instruction":             {api.Image{}, numbered(begin), api.ErrShort},
		"it goes round":              {program(t, "x:; nop; jump x"), numbered(begin), api.ErrLoop},
		"its stack":                  {program(t, "pop; fail \"x\""), nil, api.ErrStack},
		"it has no end":              {program(t, "nop"), numbered(of(99, 0, 0, 0)), api.ErrEnd},
		"it doesn't begin":           {program(t, sleep), numbered(fires(3, 1)), api.ErrState},
		"it begins twice":            {program(t, sleep), numbered(begin, begin), api.ErrState},
		"no number":                  {program(t, sleep), []api.Event{begin}, api.ErrKind},
		"no kind":                    {program(t, sleep), numbered(begin, of(22, 3, 0, 0)), api.ErrKind},
		"bookkeeping":                {program(t, sleep), numbered(begin, of(api.TaskScheduled, 3, 0, 1)), api.ErrKind},
		"it is written of a command": {program(t, sleep), numbered(begin, of(api.TimerStarted, 2, 1, 7)), api.ErrKind},
		"a field that it hasn't":     {program(t, sleep), numbered(begin, with(fires(3, 1), func(e *api.Event) { e.B = 1 })), api.ErrKind},
		"a tick below 0":             {program(t, sleep), numbered(begin, fires(-1, 1)), api.ErrKind},
		"a value that may not be":    {program(t, sleep), numbered(begin, signal(3, "x", api.Value{Kind: 9})), api.ErrKind},
		"a timer-canceled, where that timer fired": {program(t, ears), numbered(begin, fires(3, 1), of(api.TimerCanceled, 3, 1, 0)), api.ErrKind},
		"behind a timer that is passed over":       {program(t, early), numbered(begin, fires(8, 1), begin), api.ErrState},
	} {
		if list, e := Run(x.p, x.outside...); e != x.want || list != nil {
			t.Errorf("%s: %v, %q, want %v", name, e, printed(list), x.want)
		}
	}
	// What is passed over may be anything.
	late := with(fires(-5, 1), func(e *api.Event) { e.ID, e.Name = 0, "x" })
	if list, e := Run(program(t, early), append(numbered(begin), late)...); e != api.OK || len(list) != 4 {
		t.Errorf("%v, %q", e, printed(list))
	}
	// Numbers of others than the order's don't count, ticks may go back.
	odd := []api.Event{with(begin, func(e *api.Event) { e.ID = 9 }), with(fires(1, 1), func(e *api.Event) { e.ID = 9 })}
	if list, e := Run(program(t, sleep), odd...); e != api.OK || !slices.Equal(printed(list), []string{`1 @2 run-started 0 0 "flow" "" nil`, "2 @2 timer-started 1 7", "3 @1 timer-fired 1", "4 @1 run-completed 1"}) {
		t.Errorf("%v, %q", e, printed(list))
	}
}

// P27.1 at the ends of what may be.
func TestRunEnds(t *testing.T) {
	p := program(t, "input; timer; wait; return")
	list, e := Run(p, numbered(started(event.MaxTime, value.Of(math.MaxInt64)), fires(event.MaxTime, 1))...)
	if e != api.OK || len(list) != 4 || list[1].B != event.MaxTime {
		t.Errorf("%v, %q", e, printed(list))
	}
	list, e = Run(p, numbered(started(0, value.Of(-1)))...)
	if e != api.OK || len(list) != 2 || list[1].Name != "trap range" {
		t.Errorf("%v, %q", e, printed(list))
	}
}

// P2: what is answered is new, and what was handed in stays as it is.
func TestMemory(t *testing.T) {
	p := program(t, pay)
	input, result := []api.Value{value.Of(5), value.Text("x")}, []api.Value{value.Of(6)}
	outside := numbered(started(2, value.List(input...)), api.Event{Time: 3, Kind: api.ActivityCompleted, A: 1, Value: value.List(result...)})
	outside[0].Value.List, outside[1].Value.List = input, result
	was := printed(outside)
	list, _ := Run(p, outside...)
	lines := printed(list)
	other, _ := Run(p, outside...)
	for _, e := range other {
		for i := range e.Value.List {
			e.Value.List[i] = value.Of(99)
		}
		_ = append(e.Value.List, value.Of(98))
	}
	if got := printed(outside); !slices.Equal(got, was) || !slices.Equal(printed(list), lines) {
		t.Errorf("what was answered shares memory: %q, %q", got, printed(list))
	}
	input[0], result[0] = value.Of(97), value.Of(96)
	if got := printed(list); !slices.Equal(got, lines) {
		t.Errorf("what was handed in is kept: %q", got)
	}
	for i := range list { // nor do two lists of one answer
		for j := range list[i].Value.List {
			list[i].Value.List[j] = value.Of(int64(1000 + 10*i))
		}
	}
	for i, e := range list {
		for _, v := range e.Value.List {
			if v.N != int64(1000+10*i) {
				t.Errorf("the event %d shares memory", i+1)
			}
		}
	}
}

// stands: does a list have an event of a kind and a number?
func stands(list []api.Event, kind int, a int64) bool {
	return slices.ContainsFunc(list, func(e api.Event) bool { return e.Kind == kind && e.A == a })
}

// told: Run by the document's words, the program being run anew for each event.
func told(p api.Image, outside []api.Event) ([]api.Event, api.Errno) {
	if _, e := machine.New(p); e != api.OK {
		return nil, e
	}
	var kept, list []api.Event
	done := 0
	for _, e := range outside {
		if len(list) > 0 && event.Closes(list[len(list)-1]) || e.Kind == api.TimerFired && stands(list, api.TimerCanceled, e.A) {
			continue
		}
		kept = append(kept, e)
		m, _ := machine.New(p)
		for _, x := range kept {
			if code := m.Apply(x); code != api.OK {
				return nil, code
			}
		}
		list = append(list, e)
		for _, c := range m.Made()[done:] {
			if x := command.Event(c); x.Kind != api.TimerCanceled || !stands(list, api.TimerFired, x.A) {
				list = append(list, x)
			}
		}
		done = len(m.Made())
	}
	return numbered(list...), api.OK
}

func pick[T any](r *rand.Rand, list ...T) T { return list[r.Intn(len(list))] }

// all: the tests' programs, with their names.
func all() [][2]string {
	return [][2]string{{"sleep", sleep}, {"ears", ears}, {"either", either}, {"down", down}, {"quick", quick}, {"pay", pay}, {"early", early}, {"two", two}, {"fails", fails}, {"traps", traps}}
}

// chance: events from outside by chance, the first one a beginning; seldom one that is none.
func chance(r *rand.Rand) []api.Event {
	list := []api.Event{started(int64(r.Intn(5)), value.Of(r.Int63n(3)))}
	at := list[0].Time
	for range r.Intn(9) {
		at += r.Int63n(4)
		e := api.Event{Time: at}
		switch r.Intn(12) {
		case 0, 1, 2, 3:
			e.Kind, e.A = api.TimerFired, 1+r.Int63n(2)
		case 4, 5, 6, 7:
			e.Kind, e.Name, e.Value = api.SignalReceived, pick(r, "go", "stop", "else"), pick(r, value.Of(1), value.Text("x"), value.List(value.Of(2)))
		case 8, 9:
			e.Kind, e.A = pick(r, api.ActivityCompleted, api.ActivityFailed, api.ActivityTimedOut), 1
		case 10:
			e.Kind = api.CancelRequested
		case 11:
			e.Kind = pick(r, api.RunTerminated, api.RunTimedOut, api.CancelRequested, api.RunStarted, api.TimerCanceled, api.TaskStarted, 0)
		}
		list = append(list, e)
	}
	return numbered(list...)
}

// P27.1 by chance, against the document's words.
func TestRunChance(t *testing.T) {
	r := rand.New(rand.NewSource(1))
	codes := map[api.Errno]int{}
	for range 4000 {
		for _, x := range all() {
			p, outside := program(t, x[1]), chance(r)
			got, e := Run(p, outside...)
			want, code := told(p, outside)
			if e != code || !slices.Equal(printed(got), printed(want)) {
				t.Fatalf("%s, %q: %v, %q, want %v, %q", x[0], printed(outside), e, printed(got), code, printed(want))
			}
			codes[e]++
		}
	}
	if codes[api.OK] < 10000 || codes[api.ErrState] < 100 || codes[api.ErrKind] < 100 {
		t.Errorf("%v", codes)
	}
}
