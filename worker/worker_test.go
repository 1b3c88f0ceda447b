package worker

import (
	"math"
	"reflect"
	"slices"
	"strings"
	"testing"

	"foliot/api"
	"foliot/asm"
	"foliot/command"
	"foliot/machine"
	"foliot/replay"
	"foliot/value"
)

// program: that of lines with `;` between them; one with a colon is a label.
func program(t *testing.T, lines string) api.Image {
	t.Helper()
	s := ""
	for _, line := range strings.Split(lines, ";") {
		if line = strings.TrimSpace(line); !strings.HasSuffix(line, ":") {
			line = "  " + line
		}
		s += line + "\n"
	}
	p, f := asm.Parse(s)
	if f.Code != api.OK {
		t.Fatalf("%+v in %q", f, lines)
	}
	return p
}

// sleeper sleeps for five ticks; ears hear signals for ever.
const (
	sleeper = "push 5; timer; wait; return"
	ears    = "start:; signal \"go\"; pop; jump start"
)

// history: events with the IDs from 1 on.
func history(events ...api.Event) []api.Event {
	for i := range events {
		events[i].ID = i + 1
	}
	return events
}

func started(at int64) api.Event {
	return api.Event{Time: at, Kind: api.RunStarted, Name: "flow"}
}

func signal(at int64, name string) api.Event {
	return api.Event{Time: at, Kind: api.SignalReceived, Name: name, Value: value.Of(at)}
}

// fresh: a history up to where the first task is started.
func fresh() []api.Event {
	return history(started(2), api.Event{Time: 2, Kind: api.TaskScheduled, B: 1}, api.Event{Time: 2, Kind: api.TaskStarted, A: 1, B: 1})
}

func newWorker(t *testing.T, room int) *Worker {
	t.Helper()
	w, e := New(room)
	if e != api.OK {
		t.Fatalf("New(%d): %v", room, e)
	}
	return w
}

// wantDo: a job comes to that, as to whether it was remembered and how much was read.
func wantDo(t *testing.T, w *Worker, j Job, cached bool, read int) Result {
	t.Helper()
	r, e := w.Do(j)
	if e != api.OK || r.Cached != cached || r.Read != read {
		t.Fatalf("Do: %+v, %v, want cached: %v, read: %d", r, e, cached, read)
	}
	return r
}

// wantError: a job is refused.
func wantError(t *testing.T, w *Worker, j Job, want api.Errno) {
	t.Helper()
	if r, e := w.Do(j); e != want || !reflect.DeepEqual(r, Result{}) {
		t.Errorf("Do: %+v, %v, want %v", r, e, want)
	}
}

func wantCached(t *testing.T, w *Worker, want ...int) {
	t.Helper()
	if got := w.Cached(); !slices.Equal(got, want) {
		t.Errorf("Cached: %v, want %v", got, want)
	}
}

func wantCounts(t *testing.T, w *Worker, hits, misses int64) {
	t.Helper()
	if w.Hits() != hits || w.Misses() != misses {
		t.Errorf("Hits, Misses: %d, %d, want %d, %d", w.Hits(), w.Misses(), hits, misses)
	}
}

// The chapter's example.
func TestExample(t *testing.T) {
	w := newWorker(t, 2)
	j := Job{Run: 7, Image: program(t, sleeper), Events: fresh()}
	want := []api.Command{{Kind: api.StartTimer, Time: 2, A: 1, B: 5}}
	if r := wantDo(t, w, j, false, 3); !reflect.DeepEqual(r.Commands, want) || r.More {
		t.Errorf("Do: %+v", r)
	}
	if r := wantDo(t, w, j, true, 0); !reflect.DeepEqual(r.Commands, want) || r.More {
		t.Errorf("Do once more: %+v", r)
	}
	wantCounts(t, w, 1, 1)
}

func TestNumbers(t *testing.T) {
	if MaxRoom != 16 || MaxBytes != 700 {
		t.Errorf("MaxRoom, MaxBytes: %d, %d", MaxRoom, MaxBytes)
	}
}

// P24.1: the rooms that there are.
func TestNew(t *testing.T) {
	for _, room := range []int{math.MinInt, -1, 17, 18, math.MaxInt} {
		if w, e := New(room); w != nil || e != api.ErrRange {
			t.Errorf("New(%d): %v, %v", room, w, e)
		}
	}
	for room := range 17 {
		w := newWorker(t, room)
		if w.Room() != room {
			t.Errorf("Room: %d, want %d", w.Room(), room)
		}
		wantCached(t, w)
		wantCounts(t, w, 0, 0)
		if w.Evict(0) {
			t.Error("Evict of a run that isn't remembered")
		}
	}
}

// P24.2 and P24.3: the run that was done last stands at the end; those that were done longest ago go.
func TestCached(t *testing.T) {
	w := newWorker(t, 3)
	p := program(t, ears)
	for _, n := range []int{5, -1, 0, 5, math.MaxInt, math.MinInt, 0} {
		w.Do(Job{Run: n, Image: p, Events: fresh()})
	}
	wantCached(t, w, math.MaxInt, math.MinInt, 0)
	if !w.Evict(math.MinInt) || w.Evict(math.MinInt) || w.Evict(5) {
		t.Error("Evict: the wrong answer")
	}
	wantCached(t, w, math.MaxInt, 0)
	wantDo(t, w, Job{Run: math.MaxInt, Image: p, Events: fresh()}, true, 0)
	wantCached(t, w, 0, math.MaxInt)
	wantDo(t, w, Job{Run: math.MinInt, Image: p, Events: fresh()}, false, 3)
	wantCached(t, w, 0, math.MaxInt, math.MinInt)
	w.Clear()
	wantCached(t, w)
	wantDo(t, w, Job{Run: 0, Image: p, Events: fresh()}, false, 3)
	wantCached(t, w, 0)
}

// P24.1 and P24.3: of so many runs that there is no room for one of them none is forgotten ahead of that.
func TestRoom(t *testing.T) {
	p := program(t, sleeper)
	for room := range 17 {
		w := newWorker(t, room)
		for n := range 20 {
			wantDo(t, w, Job{Run: n, Image: p, Events: fresh()}, false, 3)
		}
		var want []int
		for n := 20 - room; n < 20; n++ {
			want = append(want, n)
		}
		wantCached(t, w, want...)
		for _, n := range want {
			wantDo(t, w, Job{Run: n, Image: p, Events: fresh()}, true, 0)
		}
		wantCached(t, w, want...)
		wantCounts(t, w, int64(room), 20)
	}
}

// P24.4: of a run that is remembered the rest of the history is read alone.
func TestRest(t *testing.T) {
	w := newWorker(t, 1)
	p := program(t, ears)
	list := fresh()
	wantDo(t, w, Job{Image: p, Events: list[:0]}, false, 0)
	wantDo(t, w, Job{Image: p, Events: list[:1]}, true, 1)
	wantDo(t, w, Job{Image: p, Events: list}, true, 2)
	list = history(append(list, signal(3, "go"), signal(4, "go"), signal(5, "stop"))...)
	wantDo(t, w, Job{Image: p, Events: list}, true, 3)
	wantDo(t, w, Job{Image: p, Events: list}, true, 0)
	wantCounts(t, w, 4, 1)
}

// P24.3: another image, a shorter history, another event where it was at: the run is as if it weren't remembered; then it is, as it is now.
func TestOther(t *testing.T) {
	list := history(append(fresh(), signal(3, "go"))...)
	other := func(change func(*api.Event)) []api.Event {
		l := slices.Clone(list)
		change(&l[3])
		return l
	}
	p := program(t, ears)
	wide := p
	wide.Places = 1
	for name, j := range map[string]Job{
		"another image":  {Image: program(t, "signal \"go\"; return"), Events: list},
		"one more place": {Image: wide, Events: list},
		"a shorter one":  {Image: p, Events: list[:3]},
		"an empty one":   {Image: p},
		"another tick":   {Image: p, Events: other(func(e *api.Event) { e.Time = 4 })},
		"another kind":   {Image: p, Events: other(func(e *api.Event) { *e = api.Event{ID: 4, Time: 3, Kind: api.CancelRequested} })},
		"another name":   {Image: p, Events: other(func(e *api.Event) { e.Name = "gone" })},
		"another value":  {Image: p, Events: other(func(e *api.Event) { e.Value = value.Of(4) })},
		"none":           {Image: p, Events: other(func(e *api.Event) { e.Value = api.Value{} })},
	} {
		w := newWorker(t, 2)
		wantDo(t, w, Job{Image: p, Events: list}, false, 4)
		wantDo(t, w, Job{Run: 1, Image: p, Events: list}, false, 4)
		r, e := w.Do(j)
		if e != api.OK || r.Cached || r.Read != len(j.Events) {
			t.Errorf("%s: %+v, %v", name, r, e)
		}
		wantCached(t, w, 1, 0)
		wantCounts(t, w, 0, 3)
		wantDo(t, w, j, true, 0)
		wantDo(t, w, Job{Run: 1, Image: p, Events: list}, true, 0)
	}
}

// P24.3: the same image in other memory, by other empty lists, and the same history in other memory.
func TestSameAgain(t *testing.T) {
	w := newWorker(t, 1)
	wantDo(t, w, Job{Image: program(t, sleeper), Events: fresh()}, false, 3)
	p := program(t, sleeper)
	p.Names = []string{}
	wantDo(t, w, Job{Image: p, Events: fresh()}, true, 0)
}

// P24.4: layer 11's error comes first; nothing is counted then, and all that is remembered stays.
func TestCheckError(t *testing.T) {
	w := newWorker(t, 2)
	good := Job{Run: 1, Image: program(t, ears), Events: fresh()}
	wantDo(t, w, good, false, 3)
	wrong := []api.Event{{ID: 9}}
	wantError(t, w, Job{Run: 1, Events: wrong}, api.ErrShort)
	wantError(t, w, Job{Run: 1, Image: api.Image{Code: []api.Instr{{Op: 99}}}, Events: wrong}, api.ErrOp)
	wantError(t, w, Job{Run: 1, Image: api.Image{Code: []api.Instr{{}}, Places: -1}}, api.ErrRange)
	wantCached(t, w, 1)
	wantCounts(t, w, 0, 1)
	wantDo(t, w, good, true, 0)
}

// P24.4: New's error is that of a run that isn't remembered; what was remembered of it stays.
func TestNewError(t *testing.T) {
	w := newWorker(t, 2)
	good := Job{Run: 1, Image: program(t, ears), Events: fresh()}
	wantDo(t, w, good, false, 3)
	wrong := []api.Event{{ID: 9}}
	wantError(t, w, Job{Run: 1, Image: program(t, "pop; jump end; end:; nop"), Events: wrong}, api.ErrStack)
	wantError(t, w, Job{Run: 1, Image: program(t, "nop"), Events: wrong}, api.ErrEnd)
	wantError(t, w, Job{Run: 2, Image: program(t, "start:; jump start"), Events: wrong}, api.ErrLoop)
	wantCached(t, w, 1)
	wantCounts(t, w, 0, 4)
	wantDo(t, w, good, true, 0)
}

// P24.4: with Feed's error the run isn't remembered any more, whether it was at that history or not; others are.
func TestFeedError(t *testing.T) {
	p := program(t, sleeper)
	good := fresh()
	with := func(e api.Event) []api.Event {
		e.ID = 4
		return append(slices.Clip(good), e)
	}
	for want, list := range map[api.Errno][]api.Event{
		api.ErrKind:  with(api.Event{Kind: 99}),
		api.ErrChain: append(slices.Clip(good), api.Event{ID: 5, Time: 3, Kind: api.CancelRequested}),
		api.ErrState: with(started(3)),
		api.ErrOther: with(api.Event{Time: 2, Kind: api.TimerStarted, A: 1, B: 8}),
	} {
		w := newWorker(t, 3)
		wantDo(t, w, Job{Run: 1, Image: p, Events: good}, false, 3)
		wantDo(t, w, Job{Run: 2, Image: p, Events: good}, false, 3)
		wantError(t, w, Job{Run: 1, Image: p, Events: list}, want)
		wantCached(t, w, 2)
		wantCounts(t, w, 1, 2)
		wantError(t, w, Job{Run: 3, Image: p, Events: list}, want)
		wantCounts(t, w, 1, 3)
		wantError(t, w, Job{Run: 2, Image: program(t, "push 5; timer; wait; pop; push 1; return"), Events: list}, want)
		wantCached(t, w)
		wantCounts(t, w, 1, 4)
		wantDo(t, w, Job{Run: 1, Image: p, Events: good}, false, 3)
	}
	w := newWorker(t, 1)
	over := history(append(slices.Clip(good), api.Event{Time: 3, Kind: api.RunTerminated}, signal(4, "go"))...)
	wantDo(t, w, Job{Image: p, Events: over[:4]}, false, 4)
	wantError(t, w, Job{Image: p, Events: over}, api.ErrClosed)
	wantCached(t, w)
}

// pays: a program that has so many activities done, each of which gets the next value, and then ends; and that of a history that begins with them.
func pays(t *testing.T, inputs ...api.Value) api.Image {
	t.Helper()
	lines := ""
	for _, v := range inputs {
		lines += "push " + value.Print(v) + "; push 0; call \"pay\"; pop; "
	}
	return program(t, lines+"push nil; return")
}

// wide: a value such that what is written of an activity that gets it, of a number below 128 and at a tick below 128, has so many bytes.
func wide(t *testing.T, bytes int) api.Value {
	t.Helper()
	bare := written(api.Command{Kind: api.Schedule, Time: 2, A: 1, Name: "pay", Value: value.List()})
	left := bytes - bare
	var v api.Value
	if left < 200 {
		v = value.List(value.Text(strings.Repeat("a", left-2-min(1, left/130))))
	} else {
		v = value.List(value.Text(strings.Repeat("a", 150)), value.Text(strings.Repeat("b", left-156)))
	}
	if n := written(api.Command{Kind: api.Schedule, Time: 2, A: 1, Name: "pay", Value: v}); n != bytes {
		t.Fatalf("%d bytes are written, want %d", n, bytes)
	}
	return v
}

// P24.4: as many commands as their bytes allow, at the edge and beyond it.
func TestBytes(t *testing.T) {
	for _, c := range []struct {
		sizes []int
		want  int
	}{
		{[]int{350, 346}, 3}, // the end has four
		{[]int{350, 347}, 2},
		{[]int{350, 350}, 2},
		{[]int{350, 351}, 1},
		{[]int{100, 200, 100, 300}, 4},
		{[]int{100, 200, 100, 301}, 3},
		{[]int{400, 300, 20, 20}, 2},
		{[]int{400, 301, 20, 20}, 1},
		{[]int{400, 400}, 1},
	} {
		var inputs []api.Value
		for _, n := range c.sizes {
			inputs = append(inputs, wide(t, n))
		}
		r, e := newWorker(t, 0).Do(Job{Image: pays(t, inputs...), Events: fresh()})
		if e != api.OK || len(r.Commands) != c.want || r.More != (c.want <= len(c.sizes)) {
			t.Errorf("of %v: %d commands, more: %v, %v, want %d", c.sizes, len(r.Commands), r.More, e, c.want)
		}
	}
}

// P24.4: what isn't told by a task is told by later ones, when the first part is written.
func TestMore(t *testing.T) {
	var inputs []api.Value
	for i := range 20 {
		inputs = append(inputs, wide(t, 90+i))
	}
	p := pays(t, inputs...)
	list := fresh()
	w := newWorker(t, 1)
	var all []api.Command
	for range 30 {
		r, e := w.Do(Job{Image: p, Events: list})
		if e != api.OK || len(r.Commands) == 0 {
			t.Fatalf("Do: %+v, %v", r, e)
		}
		for _, c := range r.Commands {
			list = append(list, command.Event(c))
		}
		if all = append(all, r.Commands...); !r.More {
			break
		}
		list = history(list...)
	}
	if want, _ := replay.Replay(p, fresh()...); !reflect.DeepEqual(all, want.Pending()) || len(all) != 21 {
		t.Errorf("%d commands, want 21", len(all))
	}
}

// P24.4: nothing is wanted, and nothing more is to come, of a run that waits, or is over.
func TestNothing(t *testing.T) {
	w := newWorker(t, 3)
	for n, list := range [][]api.Event{nil, fresh(), history(started(1), api.Event{Time: 3, Kind: api.RunTerminated})} {
		if r, e := w.Do(Job{Run: n, Image: program(t, ears), Events: list}); e != api.OK || len(r.Commands) != 0 || r.More {
			t.Errorf("Do %d: %+v, %v", n, r, e)
		}
	}
}

// P24.5: what is told of a program, wherever it waits.
func TestQuery(t *testing.T) {
	fired := api.Event{Time: 7, Kind: api.TimerFired, A: 1}
	for _, c := range []struct {
		lines  string
		events []api.Event
		want   Answer
	}{
		{sleeper, nil, Answer{Waits: machine.Start}},
		{sleeper, fresh(), Answer{Waits: machine.ForTimer, ID: 1, Made: 1}},
		{sleeper, history(append(fresh(), api.Event{Time: 2, Kind: api.TimerStarted, A: 1, B: 7}, fired)...), Answer{Waits: machine.Over, Made: 2}},
		{sleeper, history(append(fresh(), fired)...), Answer{Waits: machine.Over, Made: 2}},
		{ears, fresh(), Answer{Waits: machine.ForSignal, Name: "go"}},
		{"push 1; push 0; call \"pay\"; join; return", fresh(), Answer{Waits: machine.ForActivity, ID: 1, Made: 1}},
		{"push 1; timer; either \"now\"; pop; return", fresh(), Answer{Waits: machine.ForEither, ID: 1, Name: "now", Made: 1}},
		{"push nil; timer; return", fresh(), Answer{Waits: machine.Over, Made: 1, Trap: "range"}},
		{sleeper, history(started(1), api.Event{Time: 3, Kind: api.RunTerminated}), Answer{Waits: machine.Over, Made: 1}},
	} {
		if a, e := Query(program(t, c.lines), c.events...); e != api.OK || a != c.want {
			t.Errorf("Query of %q over %d events: %+v, %v, want %+v", c.lines, len(c.events), a, e, c.want)
		}
	}
}

// P24.5: layer 15's errors.
func TestQueryErrors(t *testing.T) {
	wrong := history(started(2), api.Event{Time: 2, Kind: api.TimerStarted, A: 1, B: 8})
	for want, f := range map[api.Errno]func() (Answer, api.Errno){
		api.ErrShort: func() (Answer, api.Errno) { return Query(api.Image{}, wrong...) },
		api.ErrEnd:   func() (Answer, api.Errno) { return Query(program(t, "nop"), wrong...) },
		api.ErrOther: func() (Answer, api.Errno) { return Query(program(t, sleeper), wrong...) },
		api.ErrChain: func() (Answer, api.Errno) { return Query(program(t, sleeper), fresh()[1]) },
	} {
		if a, e := f(); e != want || a != (Answer{}) {
			t.Errorf("Query: %+v, %v, want %v", a, e, want)
		}
	}
}

// spoil overwrites all that a job hands in.
func spoil(j Job) {
	for i := range j.Image.Code {
		j.Image.Code[i] = api.Instr{}
	}
	for i := range j.Image.Consts {
		j.Image.Consts[i] = api.Value{}
	}
	for i := range j.Image.Names {
		j.Image.Names[i] = "spoilt"
	}
	for i := range j.Events {
		for k := range j.Events[i].Value.List {
			j.Events[i].Value.List[k] = api.Value{}
		}
		j.Events[i] = api.Event{}
	}
}

// P2: what is handed in is neither changed nor kept, and what is answered is the caller's own.
func TestMemory(t *testing.T) {
	list := func() []api.Event {
		l := history(append(fresh(), signal(3, "go"))...)
		l[3].Value = value.List(value.Text("a"), value.List(value.Of(1)))
		return l
	}
	job := func() Job {
		return Job{Image: program(t, "signal \"go\"; push 0; call \"pay\"; join; return"), Events: list()}
	}
	w := newWorker(t, 1)
	j := job()
	r := wantDo(t, w, j, false, 4)
	if !reflect.DeepEqual(j, job()) {
		t.Error("Do changes what is handed in")
	}
	want, _ := newWorker(t, 0).Do(job())
	if !reflect.DeepEqual(r.Commands, want.Commands) || len(r.Commands) != 1 {
		t.Fatalf("Do: %+v", r)
	}
	spoil(j)
	cached := w.Cached()
	r.Commands[0].Value.List[1].List[0] = value.Of(9)
	r.Commands[0].Kind = 0
	cached[0] = 9
	wantCached(t, w, 0)
	if r = wantDo(t, w, job(), true, 0); !reflect.DeepEqual(r.Commands, want.Commands) {
		t.Errorf("Do keeps what is handed in, or tells what it keeps: %+v", r)
	}
	l := list()
	Query(job().Image, l...)
	if !reflect.DeepEqual(l, list()) {
		t.Error("Query changes what is handed in")
	}
}

// P1: values that may not be, in images and events, as deep as one likes.
func TestRaw(t *testing.T) {
	deep := value.Of(1)
	for range 1000 {
		deep = value.List(deep)
	}
	round := []api.Value{{Kind: api.List}}
	round[0].List = round
	for _, v := range []api.Value{deep, round[0], {Kind: 77}, {Kind: -1, List: round}} {
		w := newWorker(t, 1)
		p := api.Image{Code: []api.Instr{{}}, Consts: []api.Value{v}}
		if _, e := w.Do(Job{Image: p}); e == api.OK {
			t.Error("Do of an image that may not be")
		}
		list := history(append(fresh(), signal(3, "go"))...)
		wantDo(t, w, Job{Image: program(t, ears), Events: list}, false, 4)
		list[3].Value = v
		wantError(t, w, Job{Image: program(t, ears), Events: list}, api.ErrKind)
		if _, e := Query(p, list...); e == api.OK {
			t.Error("Query of an image that may not be")
		}
		if _, e := Query(program(t, ears), list...); e != api.ErrKind {
			t.Errorf("Query: %v", e)
		}
	}
}
