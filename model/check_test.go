package model

import (
	"maps"
	"math"
	"slices"
	"testing"

	"foliot/api"
	"foliot/disk"
	"foliot/engine"
	"foliot/image"
	"foliot/store"
	"foliot/value"
	"foliot/wal"
	"foliot/wire"
)

// loaded: the tests' programs.
func loaded(t *testing.T) engine.Programs {
	t.Helper()
	var list []*image.Program
	for _, x := range all() {
		list = append(list, named(t, x[0], x[1]))
	}
	return Programs(list...)
}

// begin: a change by which a run of a workflow begins, with events.
func begin(name string, list ...api.Event) store.Change {
	return store.Change{Kind: store.Begin, Name: name, Events: list}
}

// kept: a store over an empty disk, to which such changes were made, one by one.
func kept(t *testing.T, changes ...store.Change) *store.Store {
	t.Helper()
	d, e := disk.New(400)
	if e != api.OK {
		t.Fatalf("disk.New: %v", e)
	}
	s, e := store.Open(d)
	if e != api.OK {
		t.Fatalf("store.Open: %v", e)
	}
	for i, c := range changes {
		if codes, e := s.Write(store.Batch{c}); e != api.OK || codes[0] != api.OK {
			t.Fatalf("the change %d: %v, %v", i, e, codes)
		}
	}
	return s
}

// start: a run of a program begins at 3, with a number.
func start(program string, n int64) api.Event {
	return api.Event{Time: 3, Kind: api.RunStarted, Name: program, Value: value.Of(n)}
}

// on: a run goes on in another one, with a number.
func on(next, n int64) api.Event {
	return api.Event{Time: 3, Kind: api.ContinuedAsNew, B: next, Value: value.Of(n)}
}

// wantFindings: what is wrong in a store, and that it is as it was.
func wantFindings(t *testing.T, what string, s *store.Store, programs engine.Programs, want ...Finding) {
	t.Helper()
	state := string(s.State())
	if got := Check(s, programs); !slices.Equal(got, want) {
		t.Errorf("%s: %v, want %v", what, got, want)
	}
	if string(s.State()) != state {
		t.Errorf("%s: the store is another one", what)
	}
}

// P27.4: what is wrong with each run alone.
func TestCheck(t *testing.T) {
	programs := loaded(t)
	wantFindings(t, "nothing", kept(t), programs)
	wantFindings(t, "nothing, and no programs", kept(t), nil)
	timer := of(api.TimerStarted, 3, 1, 8)
	s := kept(t,
		begin("a", start("sleep", 1)),
		begin("b", start("none", 1), timer),
		begin("c", start("sleep", 1), timer, fires(8, 1)),
		begin("b", start("sleep", 1), timer, timer),
		begin("d", start("quick", 1), ends(3, api.RunCompleted, value.Of(2))),
		begin("e", start("quick", 1), ends(3, api.RunCompleted, value.Of(1))))
	wantFindings(t, "runs", s, programs, Finding{2, api.ErrMissing}, Finding{4, api.ErrOther}, Finding{5, api.ErrOther})
	wantFindings(t, "no programs", s, nil, Finding{1, api.ErrMissing}, Finding{2, api.ErrMissing}, Finding{3, api.ErrMissing}, Finding{4, api.ErrMissing}, Finding{5, api.ErrMissing}, Finding{6, api.ErrMissing})
	// What programs are is told by the map, whoever made it.
	other := maps.Clone(programs)
	other["sleep"], other["none"], other["quick"] = nil, programs["sleep"], named(t, "loop", "x:; jump x")
	wantFindings(t, "other programs", s, other, Finding{1, api.ErrMissing}, Finding{3, api.ErrMissing}, Finding{4, api.ErrMissing}, Finding{5, api.ErrLoop}, Finding{6, api.ErrLoop})
}

// P27.4: what is wrong with a run and the one in which it goes on.
func TestCheckNext(t *testing.T) {
	programs := loaded(t)
	first := start("down", 1)
	first.A, first.Text = 50, "* * * * *"
	next := start("down", 0)
	next.A, next.Text, next.B = 50, "* * * * *", 2
	with := func(change func(e *api.Event)) api.Event {
		e := next
		change(&e)
		return e
	}
	quiet := begin("other", start("ears", 0))
	for name, x := range map[string]struct {
		changes []store.Change
		want    []Finding
	}{
		"right":                           {[]store.Change{quiet, begin("w", first, on(3, 0)), begin("w", next)}, nil},
		"right, and another between":      {[]store.Change{quiet, begin("w", first, on(4, 0)), quiet, begin("w", next)}, nil},
		"right, though not the next":      {[]store.Change{quiet, begin("w", first, on(4, 0)), begin("w", start("quick", 0)), begin("w", next)}, nil},
		"its input doesn't count":         {[]store.Change{quiet, begin("w", first, on(3, 0)), begin("w", with(func(e *api.Event) { e.Value, e.Time = value.Text("x"), 1 }))}, nil},
		"no number":                       {[]store.Change{quiet, begin("w", first, on(0, 0)), begin("w", next)}, []Finding{{2, api.ErrMissing}}},
		"the number that is next":         {[]store.Change{quiet, begin("w", first, on(4, 0)), begin("w", next)}, []Finding{{2, api.ErrMissing}}},
		"one far away":                    {[]store.Change{quiet, begin("w", first, on(math.MaxInt64, 0)), begin("w", next)}, []Finding{{2, api.ErrMissing}}},
		"itself":                          {[]store.Change{quiet, begin("w", with(func(e *api.Event) { e.Value = value.Of(1) }), on(2, 0))}, []Finding{{2, api.ErrChain}}},
		"another workflow's":              {[]store.Change{quiet, begin("w", first, on(3, 0)), begin("v", next)}, []Finding{{2, api.ErrChain}}},
		"another workflow's, a later one": {[]store.Change{begin("w", first, on(3, 0)), begin("v", with(func(e *api.Event) { e.Name, e.B = "ears", 0 })), begin("v", with(func(e *api.Event) { e.B = 1 }))}, []Finding{{1, api.ErrChain}}},
		"another program's":               {[]store.Change{quiet, begin("w", first, on(3, 0)), begin("w", with(func(e *api.Event) { e.Name = "ears" }))}, []Finding{{2, api.ErrChain}}},
		"another text":                    {[]store.Change{quiet, begin("w", first, on(3, 0)), begin("w", with(func(e *api.Event) { e.Text = "" }))}, []Finding{{2, api.ErrChain}}},
		"another time":                    {[]store.Change{quiet, begin("w", first, on(3, 0)), begin("w", with(func(e *api.Event) { e.A = 51 }))}, []Finding{{2, api.ErrChain}}},
		"it goes on from another one":     {[]store.Change{quiet, begin("w", first, on(3, 0)), begin("w", with(func(e *api.Event) { e.B = 1 }))}, []Finding{{2, api.ErrChain}}},
		"it goes on from none":            {[]store.Change{quiet, begin("w", first, on(3, 0)), begin("w", with(func(e *api.Event) { e.B = 0 }))}, []Finding{{2, api.ErrChain}}},
		"an earlier one":                  {[]store.Change{begin("w", with(func(e *api.Event) { e.Name = "down" })), begin("w", first, on(1, 0))}, []Finding{{2, api.ErrChain}}},
		"forgotten":                       {[]store.Change{quiet, begin("w", first, on(3, 0)), begin("w", next, ends(3, api.RunCompleted, value.Of(3))), {Kind: store.Delete, Run: 3}}, nil},
		"an earlier one, forgotten":       {[]store.Change{begin("w", start("quick", 1), ends(3, api.RunCompleted, value.Of(1))), begin("w", first, on(1, 0)), {Kind: store.Delete, Run: 1}}, []Finding{{2, api.ErrMissing}}},
		"who went on is forgotten":        {[]store.Change{quiet, begin("w", first, on(3, 0)), begin("w", next), {Kind: store.Delete, Run: 2}}, nil},
		"it isn't over so":                {[]store.Change{begin("w", with(func(e *api.Event) { e.Name = "ears" }), api.Event{Time: 3, Kind: api.RunTerminated, Name: "x"})}, nil},
		"several":                         {[]store.Change{begin("w", first, on(9, 0)), begin("v", first, on(3, 0)), begin("v", next), begin("u", first, on(2, 0))}, []Finding{{1, api.ErrMissing}, {4, api.ErrChain}}},
		"both are wrong":                  {[]store.Change{begin("w", first, on(9, 7)), begin("v", start("none", 1), on(1, 0)), begin("u", start("none", 1))}, []Finding{{1, api.ErrOther}, {1, api.ErrMissing}, {2, api.ErrMissing}, {2, api.ErrChain}, {3, api.ErrMissing}}},
	} {
		wantFindings(t, name, kept(t, x.changes...), programs, x.want...)
	}
}

// P1: a log that no store wrote may tell of a run without events.
func TestStrangeLog(t *testing.T) {
	d, _ := disk.New(100)
	l, _, e := wal.Open(d)
	if e != api.OK {
		t.Fatalf("wal.Open: %v", e)
	}
	var w wire.Writer
	number := func(list ...uint64) {
		for _, n := range list {
			w.Num(n)
		}
	}
	number(2, 1)
	w.Text("w")
	number(1, 1, 1)
	w.Text("w")
	number(1)
	w.Sum(api.Sum{1})
	number(0)
	w.Sum(api.Sum{1})
	if e := l.Checkpoint(w.Bytes()); e != api.OK {
		t.Fatalf("Checkpoint: %v", e)
	}
	s, e := store.Open(d)
	if e != api.OK || len(s.Runs()) != 1 {
		t.Fatalf("store.Open: %v", e)
	}
	Check(s, loaded(t))
}

// P27.4: the runs of a workflow.
func TestSorted(t *testing.T) {
	over := []api.Event{start("quick", 1), ends(3, api.RunCompleted, value.Of(1))}
	s := kept(t, begin("w", over...), begin("v", over...), begin("w", over...), begin("", over...), begin("w", over...), store.Change{Kind: store.Delete, Run: 3})
	for name, want := range map[string][]int{"w": {1, 5}, "v": {2}, "": {4}, "u": nil} {
		if got := Sorted(s, name); !slices.Equal(got, want) {
			t.Errorf("%q: %v, want %v", name, got, want)
		}
	}
	if got := Sorted(kept(t), "w"); len(got) != 0 {
		t.Errorf("of nothing: %v", got)
	}
	got := Sorted(s, "w")
	got[0] = 9
	_ = append(got, 8)
	if again := Sorted(s, "w"); !slices.Equal(again, []int{1, 5}) {
		t.Errorf("it shares memory: %v", again)
	}
}

// P27.4: the programs that may be run.
func TestPrograms(t *testing.T) {
	if p := Programs(); p == nil || len(p) != 0 {
		t.Errorf("of none: %v", p)
	}
	a, b := named(t, "a", sleep), named(t, "b", quick)
	p := Programs(a, nil, named(t, "loop", "x:; jump x"), b, named(t, "a", quick))
	if len(p) != 2 || p["a"] != a || p["b"] != b {
		t.Errorf("%v", p)
	}
	if e := p.Add(named(t, "c", quick)); e != api.OK || len(Programs(a)) != 1 {
		t.Errorf("Add: %v; each call answers programs of its own", e)
	}
}
