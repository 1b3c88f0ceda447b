package model

import (
	"math/rand"
	"slices"
	"testing"

	"foliot/api"
	"foliot/event"
	"foliot/replay"
	"foliot/value"
)

// task: what a server writes of a task that is done.
func task(at int64) []api.Event {
	return []api.Event{of(api.TaskScheduled, at, 0, 1), of(api.TaskStarted, at, 1, 1), of(api.TaskCompleted, at, 1, 0)}
}

// join: lists, one behind the other, numbered.
func join(lists ...[]api.Event) []api.Event { return numbered(slices.Concat(lists...)...) }

// P27.2: what fits, and what is whole.
func TestFits(t *testing.T) {
	begin, go1 := started(2, value.Of(1)), signal(4, "go", value.Text("x"))
	first, second := of(api.TimerStarted, 2, 1, 5), of(api.TimerStarted, 2, 2, 10)
	canceled, done := of(api.TimerCanceled, 4, 1, 0), ends(11, api.RunCompleted, value.Of(11))
	l := func(list ...api.Event) []api.Event { return list }
	for name, x := range map[string]struct {
		lines string
		list  []api.Event
		want  api.Errno
		whole bool
	}{
		"nothing":                        {two, nil, api.ErrShort, false},
		"none from outside":              {two, l(first, second), api.ErrShort, false},
		"bookkeeping alone":              {two, task(2), api.ErrShort, false},
		"its beginning":                  {two, l(begin), api.OK, false},
		"one of two":                     {two, l(begin, first), api.OK, false},
		"both":                           {two, l(begin, first, second), api.OK, true},
		"with bookkeeping":               {two, join(l(begin), task(2), l(first, second), task(2)), api.OK, true},
		"the wrong order":                {two, l(begin, second, first), api.ErrOther, false},
		"the second one alone":           {two, l(begin, second), api.ErrOther, false},
		"twice":                          {two, l(begin, first, first), api.ErrOther, false},
		"more":                           {two, l(begin, first, second, canceled), api.ErrOther, false},
		"what it wants by a signal":      {two, l(begin, first, second, go1), api.OK, false},
		"and all of it":                  {two, l(begin, first, second, go1, canceled), api.OK, true},
		"the signal comes later":         {two, l(begin, first, second, canceled, go1), api.OK, true},
		"the timer fires, too":           {two, l(begin, first, second, go1, canceled, fires(5, 1)), api.ErrOther, false},
		"it fires ahead of that":         {two, l(begin, first, second, go1, fires(5, 1)), api.OK, true},
		"to its end":                     {two, l(begin, first, second, go1, canceled, fires(11, 2), done), api.OK, true},
		"up to ahead of its end":         {two, l(begin, first, second, go1, canceled, fires(11, 2)), api.OK, false},
		"behind its end":                 {two, l(begin, first, second, go1, canceled, fires(11, 2), done, go1), api.OK, true},
		"another end":                    {two, l(begin, first, second, go1, canceled, fires(11, 2), ends(11, api.RunCompleted, value.Of(12))), api.ErrOther, false},
		"an end of another kind":         {two, l(begin, first, second, go1, canceled, fires(11, 2), ends(11, api.ContinuedAsNew, value.Of(11))), api.ErrOther, false},
		"ended from outside":             {two, l(begin, first, of(api.RunTerminated, 3, 0, 0)), api.OK, false},
		"the program refuses all":        {two, l(go1), api.OK, true},
		"the program refuses, but":       {two, l(go1, first), api.ErrOther, false},
		"what may not be is passed over": {two, l(begin, api.Event{Kind: 99}, first, of(api.TimerFired, -1, 1, 0)), api.OK, false},
		"another program":                {sleep, l(begin, first), api.ErrOther, false},
		"no program":                     {"nop", l(begin), api.ErrEnd, false},
		"no program, but nothing":        {"nop", nil, api.ErrShort, false},
		"no program, and more than that": {"x:; jump x", l(begin, first), api.ErrLoop, false},
	} {
		p := program(t, x.lines)
		list := numbered(x.list...)
		if got := Fits(p, list...); got != x.want {
			t.Errorf("%s: %v, want %v", name, got, x.want)
		}
		if got := Whole(p, list...); got != x.whole {
			t.Errorf("%s: whole %v", name, got)
		}
	}
	if got := Fits(api.Image{}, numbered(begin)...); got != api.ErrShort {
		t.Errorf("the zero program: %v", got)
	}
}

// changed: an event with each field of its own another one, one by one, the numbers left as they are.
func changed(e api.Event) []api.Event {
	var list []api.Event
	for i := range 6 {
		x := e
		switch i {
		case 0:
			x.Time++
		case 1:
			x.A++
		case 2:
			x.Name += "x"
		case 3:
			x.Text += "x"
		case 4:
			x.Value = value.List(x.Value)
		case 5:
			x.B++
		}
		if i < 5 || e.Kind != api.ContinuedAsNew {
			list = append(list, x)
		}
	}
	return list
}

// numbersOf: the same, with other numbers.
func numbersOf(r *rand.Rand, list []api.Event) []api.Event {
	list = slices.Clone(list)
	for i := range list {
		list[i].ID = pick(r, 1+r.Intn(99), list[i].ID)
		if list[i].Kind == api.ContinuedAsNew {
			list[i].B = r.Int63n(99)
		}
	}
	return list
}

// P27.1, P27.2: what a run alone comes to is whole; its beginnings fit; what is changed doesn't; numbers and bookkeeping don't count.
func TestFitsChance(t *testing.T) {
	r := rand.New(rand.NewSource(2))
	for range 400 {
		for _, x := range all() {
			name, p := x[0], program(t, x[1])
			list, e := Run(p, chance(r)...)
			if e != api.OK {
				continue
			}
			same := numbersOf(r, list)
			if Fits(p, list...) != api.OK || !Whole(p, list...) || Fits(p, same...) != api.OK || !Whole(p, same...) {
				t.Fatalf("%s: %q", name, printed(list))
			}
			with := slices.Insert(slices.Clone(list), 1+r.Intn(len(list)), task(2)...)
			if Fits(p, with...) != api.OK || !Whole(p, with...) {
				t.Fatalf("%s: %q", name, printed(with))
			}
			outside, made := replay.Outside(list...), replay.Made(list...)
			for i, x := range made {
				part := slices.Concat(outside, made[:i])
				if Fits(p, part...) != api.OK || Whole(p, part...) {
					t.Fatalf("%s: %q", name, printed(part))
				}
				for _, other := range changed(x) {
					if got := Fits(p, append(slices.Clone(part), other)...); got != api.ErrOther {
						t.Fatalf("%s: %v of %q and %+v", name, got, printed(part), other)
					}
				}
			}
			if more := append(slices.Clone(list), ends(0, api.RunFailed, api.Value{})); Fits(p, more...) != api.ErrOther || Whole(p, more...) {
				t.Fatalf("%s: %q", name, printed(more))
			}
		}
	}
}

// P27.3: who agrees.
func TestAgree(t *testing.T) {
	begin, go1 := started(2, value.Of(1)), signal(4, "go", value.Text("x"))
	first, second := of(api.TimerStarted, 2, 1, 5), of(api.TimerStarted, 2, 2, 10)
	on := func(next int64) api.Event { return api.Event{Time: 4, Kind: api.ContinuedAsNew, B: next} }
	behind := begin
	behind.B = 3
	l := func(list ...api.Event) []api.Event { return list }
	for name, x := range map[string]struct {
		a, b        []api.Event
		same, agree bool
	}{
		"nothing":                 {nil, nil, true, true},
		"nothing and something":   {nil, l(begin, first), false, true},
		"the same":                {l(begin, first), l(begin, first), true, true},
		"one is further":          {l(begin, first), l(begin, first, second), true, true},
		"one is, by bookkeeping":  {l(begin, first), join(l(begin), task(2), l(first), task(3)), true, true},
		"another way round":       {l(begin, go1, first), l(begin, first, go1), true, true},
		"another order":           {l(begin, first, second), l(begin, second, first), true, false},
		"another one":             {l(begin, first), l(begin, second), true, false},
		"another one, then more":  {l(begin, first), l(begin, second, first), true, false},
		"less came":               {l(begin, first), l(begin, first, go1), false, true},
		"other things came":       {l(begin, go1), l(begin, fires(4, 1)), false, true},
		"they came the other way": {l(begin, go1, fires(4, 1)), l(begin, fires(4, 1), go1), false, true},
		"other things, twice":     {l(begin, go1, second), l(begin, first), false, false},
		"the next run":            {l(begin, on(3)), l(begin, on(8)), true, true},
		"the run ahead":           {l(begin), l(behind), false, true},
		"bookkeeping alone":       {task(1), task(2), true, true},
	} {
		a, b := numbered(x.a...), numbered(x.b...)
		for range 2 {
			if same, agree := Agree(a, b); same != x.same || agree != x.agree {
				t.Errorf("%s: %v, %v, want %v, %v", name, same, agree, x.same, x.agree)
			}
			a, b = b, a
		}
		for i := range a { // the numbers don't count
			a[i].ID += 5
		}
		if same, agree := Agree(a, b); same != x.same || agree != x.agree {
			t.Errorf("%s, with other numbers: %v, %v, want %v, %v", name, same, agree, x.same, x.agree)
		}
	}
	// Each field counts, of what came and of what was written.
	came := api.Event{Time: 4, Kind: api.RunStarted, A: 1, B: 2, Name: "n", Text: "t", Value: value.Of(5)}
	for _, e := range changed(came) {
		if same, agree := Agree(l(begin, came), l(begin, e)); same || !agree {
			t.Errorf("%+v: %v, %v", e, same, agree)
		}
	}
	made := api.Event{Time: 4, Kind: api.ActivityScheduled, A: 1, B: 2, Name: "n", Value: value.Of(5)}
	for _, x := range l(made, on(4)) {
		for _, e := range changed(x) {
			if same, agree := Agree(l(begin, x), l(begin, e)); !same || agree {
				t.Errorf("%+v: %v, %v", e, same, agree)
			}
		}
	}
}

// P27.3 by chance: two that are cut from one agree.
func TestAgreeChance(t *testing.T) {
	r := rand.New(rand.NewSource(4))
	for range 300 {
		for _, x := range all() {
			list, e := Run(program(t, x[1]), chance(r)...)
			if e != api.OK {
				continue
			}
			outside, made := replay.Outside(list...), replay.Made(list...)
			a := slices.Concat(outside, made[:r.Intn(len(made)+1)])
			b := numbersOf(r, slices.Concat(task(1), made[:r.Intn(len(made)+1)], outside))
			if same, agree := Agree(a, b); !same || !agree {
				t.Fatalf("%q and %q: %v, %v", printed(a), printed(b), same, agree)
			}
			i := r.Intn(len(outside))
			less := slices.Concat(outside[:i], outside[i+1:], made)
			if same, agree := Agree(list, less); same || !agree {
				t.Fatalf("%q and %q: %v, %v", printed(list), printed(less), same, agree)
			}
		}
	}
}

// P1, P2: any events; and nothing of them is changed.
func TestRaw(t *testing.T) {
	r := rand.New(rand.NewSource(5))
	endless := api.Value{Kind: api.List, List: make([]api.Value, 1)}
	endless.List[0] = endless
	for range 3000 {
		var list []api.Event
		for range r.Intn(6) {
			e := api.Event{ID: r.Intn(5) - 1, Time: r.Int63n(5) - 1, Kind: r.Intn(25) - 1, A: r.Int63n(4) - 1, B: r.Int63n(3) - 1, Name: pick(r, "", "go")}
			e.Value = pick(r, api.Value{}, value.Of(1), api.Value{Kind: 9}, value.List(value.Of(3)), endless)
			list = append(list, e)
		}
		was := slices.Clone(list)
		p := program(t, pick(r, sleep, two, down))
		Run(p, list...)
		Fits(p, list...)
		Whole(p, list...)
		Agree(list, list[:len(list)/2])
		for i, e := range list {
			if e.ID != was[i].ID || e.Kind != was[i].Kind || e.A != was[i].A || e.B != was[i].B || !event.Same(e, was[i]) {
				t.Fatalf("%+v was %+v", e, was[i])
			}
		}
	}
}
