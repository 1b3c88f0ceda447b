package audit

import (
	"math"
	"math/rand"
	"testing"

	"foliot/api"
	"foliot/disk"
	"foliot/history"
	"foliot/store"
	"foliot/wal"
	"foliot/wire"
)

func of(kind int, at, a, b int64) api.Event { return api.Event{Time: at, Kind: kind, A: a, B: b} }

// P28.1: timers.
func TestTimers(t *testing.T) {
	begins := func(id, due int64) api.Event { return of(api.TimerStarted, 2, id, due) }
	fires := func(at, id int64) api.Event { return of(api.TimerFired, at, id, 0) }
	canceled := func(id int64) api.Event { return of(api.TimerCanceled, 3, id, 0) }
	l := func(list ...api.Event) []api.Event { return list }
	for name, x := range map[string]struct {
		list []api.Event
		want api.Errno
	}{
		"nothing":                        {nil, api.OK},
		"one":                            {l(begins(1, 5)), api.OK},
		"it fires":                       {l(begins(1, 5), fires(5, 1)), api.OK},
		"it fires late":                  {l(begins(1, 5), fires(50, 1)), api.OK},
		"it fires early":                 {l(begins(1, 5), fires(4, 1)), api.ErrRange},
		"it is canceled":                 {l(begins(1, 5), canceled(1)), api.OK},
		"twice":                          {l(begins(1, 5), begins(1, 5)), api.ErrTwice},
		"twice, though it fired":         {l(begins(1, 5), fires(5, 1), begins(1, 9)), api.ErrTwice},
		"twice, though it was canceled":  {l(begins(1, 5), canceled(1), begins(1, 5)), api.ErrTwice},
		"two":                            {l(begins(1, 5), begins(2, 3), fires(4, 2), fires(5, 1)), api.OK},
		"in no order":                    {l(begins(7, 5), begins(-3, 3), begins(0, 0), fires(4, -3), canceled(0)), api.OK},
		"none fires":                     {l(fires(5, 1)), api.ErrMissing},
		"none is canceled":               {l(canceled(1)), api.ErrMissing},
		"another one fires":              {l(begins(1, 5), fires(5, 2)), api.ErrMissing},
		"another one is canceled":        {l(begins(1, 5), canceled(2)), api.ErrMissing},
		"ahead of its beginning":         {l(fires(5, 1), begins(1, 5)), api.ErrMissing},
		"it fires twice":                 {l(begins(1, 5), fires(5, 1), fires(6, 1)), api.ErrClosed},
		"it fires twice, early":          {l(begins(1, 5), fires(5, 1), fires(4, 1)), api.ErrClosed},
		"it fires twice, below 0":        {l(begins(1, 5), fires(5, 1), fires(-1, 1)), api.ErrClosed},
		"it fires behind its cancel":     {l(begins(1, 5), canceled(1), fires(5, 1)), api.ErrClosed},
		"early, behind its cancel":       {l(begins(1, 5), canceled(1), fires(3, 1)), api.ErrClosed},
		"canceled behind its fire":       {l(begins(1, 5), fires(5, 1), canceled(1)), api.ErrClosed},
		"canceled twice":                 {l(begins(1, 5), canceled(1), canceled(1)), api.ErrClosed},
		"the first one counts":           {l(begins(1, 5), fires(4, 1), begins(1, 5)), api.ErrRange},
		"activities don't count":         {l(of(api.ActivityScheduled, 2, 1, 0), of(api.ActivityCompleted, 2, 1, 0), of(api.ActivityCompleted, 2, 9, 0), begins(1, 5)), api.OK},
		"an activity isn't a timer":      {l(of(api.ActivityScheduled, 2, 1, 0), fires(5, 1)), api.ErrMissing},
		"at the end of ticks":            {l(begins(1, math.MaxInt64), fires(math.MaxInt64, 1)), api.OK},
		"ahead of it":                    {l(begins(1, math.MaxInt64), fires(math.MaxInt64-1, 1)), api.ErrRange},
		"below 0":                        {l(begins(1, -5), fires(-5, 1), begins(2, -5), fires(-6, 2)), api.ErrRange},
		"others' kinds":                  {l(of(-1, 0, 1, 0), of(99, 0, 1, 0), of(api.RunStarted, 0, 1, 0), of(api.RunStarted, 0, 1, 0)), api.OK},
		"a timer-canceled is never late": {l(begins(1, 5), of(api.TimerCanceled, -9, 1, 0)), api.OK},
	} {
		if got := Timers(x.list...); got != x.want {
			t.Errorf("%s: %v, want %v", name, got, x.want)
		}
	}
}

// P28.1: activities, each of their three ends in the place of each other one.
func TestActivities(t *testing.T) {
	begins := func(id int64) api.Event { return of(api.ActivityScheduled, 9, id, 100) }
	kinds := []int{api.ActivityCompleted, api.ActivityFailed, api.ActivityTimedOut}
	for _, first := range kinds {
		for _, second := range kinds {
			a, b := of(first, 3, 1, 0), of(second, 3, 1, 0)
			other := of(second, 3, 2, 0)
			l := func(list ...api.Event) []api.Event { return list }
			for name, x := range map[string]struct {
				list []api.Event
				want api.Errno
			}{
				"nothing":                  {nil, api.OK},
				"one":                      {l(begins(1)), api.OK},
				"it ends, whenever":        {l(begins(1), a), api.OK},
				"none ends":                {l(a), api.ErrMissing},
				"another one ends":         {l(begins(1), other), api.ErrMissing},
				"two":                      {l(begins(2), begins(1), a, other), api.OK},
				"twice":                    {l(begins(1), begins(1)), api.ErrTwice},
				"twice, though it was":     {l(begins(1), a, begins(1)), api.ErrTwice},
				"it ends twice":            {l(begins(1), a, b), api.ErrClosed},
				"it ends, and another one": {l(begins(1), a, other), api.ErrMissing},
				"timers don't count":       {l(of(api.TimerStarted, 2, 1, 9), of(api.TimerFired, 2, 1, 0), of(api.TimerFired, 2, 7, 0), begins(1), a), api.OK},
				"a timer is none":          {l(of(api.TimerStarted, 2, 1, 9), a), api.ErrMissing},
				"any number":               {l(begins(-7), of(first, -3, -7, 0), begins(math.MaxInt64)), api.OK},
			} {
				if got := Activities(x.list...); got != x.want {
					t.Errorf("%s, %d and %d: %v, want %v", name, first, second, got, x.want)
				}
			}
		}
	}
}

// P28.1: tasks: all words of six letters for what a task has, and others.
func TestTasks(t *testing.T) {
	kinds := map[byte]int{'s': api.TaskScheduled, 'b': api.TaskStarted, 'c': api.TaskCompleted, 't': api.TaskTimedOut, 'f': api.TaskFailed, 'x': api.SignalReceived, 'r': api.RunStarted, '-': 99}
	for word, want := range map[string]api.Errno{
		"": api.OK, "s": api.OK, "sb": api.OK, "sbc": api.OK, "sbt": api.OK, "sbf": api.OK, "sbcs": api.OK, "sbtsbfsbc": api.OK, "rsxbx-csxb": api.OK, "xxr-": api.OK,
		"b": api.ErrState, "c": api.ErrState, "t": api.ErrState, "f": api.ErrState, "ss": api.ErrState, "sc": api.ErrState, "st": api.ErrState, "sf": api.ErrState,
		"sbb": api.ErrState, "sbs": api.ErrState, "sbcb": api.ErrState, "sbcc": api.ErrState, "sbtf": api.ErrState, "sbft": api.ErrState, "sbtb": api.ErrState, "sxxs": api.ErrState, "rxbs": api.ErrState,
	} {
		if got := Tasks(spelled(kinds, word)...); got != want {
			t.Errorf("%q: %v, want %v", word, got, want)
		}
	}
	const letters = "sbctfx"
	for n := range 6 * 6 * 6 * 6 * 6 * 6 {
		word, kept := "", ""
		for range 6 {
			word += letters[n%6 : n%6+1]
			n /= 6
		}
		want := api.OK
		for _, c := range word {
			if c == 'x' {
				continue
			}
			kept += string(c)
			if k := len(kept) % 3; k == 1 && c != 's' || k == 2 && c != 'b' || k == 0 && (c == 's' || c == 'b') {
				want = api.ErrState
			}
		}
		if got := Tasks(spelled(kinds, word)...); got != want {
			t.Fatalf("%q: %v, want %v", word, got, want)
		}
	}
}

// spelled: the events that letters stand for.
func spelled(kinds map[byte]int, word string) []api.Event {
	var list []api.Event
	for i := range len(word) {
		list = append(list, of(kinds[word[i]], 0, 0, 0))
	}
	return list
}

// linear: Timers and Activities by the document's words: of each event all ahead of it are looked at.
func linear(list []api.Event, begins int, ends ...int) api.Errno {
	is := func(e api.Event, kinds ...int) bool {
		for _, k := range kinds {
			if e.Kind == k {
				return true
			}
		}
		return false
	}
	for i, e := range list {
		began, ended, due := 0, 0, int64(0)
		for _, x := range list[:i] {
			if x.A == e.A && is(x, begins) {
				began, due = began+1, x.B
			}
			if x.A == e.A && is(x, ends...) {
				ended++
			}
		}
		switch {
		case is(e, begins) && began > 0:
			return api.ErrTwice
		case is(e, ends...) && began == 0:
			return api.ErrMissing
		case is(e, ends...) && ended > 0:
			return api.ErrClosed
		case e.Kind == api.TimerFired && is(e, ends...) && e.Time < due:
			return api.ErrRange
		}
	}
	return api.OK
}

// P28.1 by chance, any events; and none is changed.
func TestHistoryChance(t *testing.T) {
	r := rand.New(rand.NewSource(1))
	codes := map[api.Errno]int{}
	for range 60000 {
		var list []api.Event
		for range r.Intn(9) {
			list = append(list, of(api.ActivityScheduled+r.Intn(7), r.Int63n(6), r.Int63n(4), r.Int63n(6)))
		}
		was := append([]api.Event(nil), list...)
		a, b := Timers(list...), Activities(list...)
		if want := linear(list, api.TimerStarted, api.TimerFired, api.TimerCanceled); a != want {
			t.Fatalf("%+v: timers %v, want %v", list, a, want)
		}
		if want := linear(list, api.ActivityScheduled, api.ActivityCompleted, api.ActivityFailed, api.ActivityTimedOut); b != want {
			t.Fatalf("%+v: activities %v, want %v", list, b, want)
		}
		codes[a]++
		for i := range list {
			if list[i].Kind != was[i].Kind || list[i].A != was[i].A || list[i].B != was[i].B || list[i].Time != was[i].Time {
				t.Fatal("what was handed in is another one")
			}
		}
	}
	for _, e := range []api.Errno{api.OK, api.ErrTwice, api.ErrMissing, api.ErrClosed, api.ErrRange} {
		if codes[e] < 100 {
			t.Errorf("%v: %d times alone", e, codes[e])
		}
	}
}

func newDisk(t *testing.T) *disk.Disk {
	t.Helper()
	d, e := disk.New(400)
	if e != api.OK {
		t.Fatalf("disk.New: %v", e)
	}
	return d
}

func openStore(t *testing.T, d *disk.Disk) *store.Store {
	t.Helper()
	s, e := store.Open(d)
	if e != api.OK {
		t.Fatalf("store.Open: %v", e)
	}
	return s
}

// writes: changes are made in a store, one by one.
func writes(t *testing.T, s *store.Store, list ...store.Change) {
	t.Helper()
	for _, c := range list {
		if codes, e := s.Write(store.Batch{c}); e != api.OK || codes[0] != api.OK {
			t.Fatalf("%+v: %v, %v", c, e, codes)
		}
	}
}

// strange lays a state on a disk, as no store does: a run 1 of a workflow whose chain begins with a seed.
func strange(t *testing.T, d *disk.Disk, seed api.Sum, list ...api.Event) {
	t.Helper()
	l, _, e := wal.Open(d)
	if e != api.OK {
		t.Fatalf("wal.Open: %v", e)
	}
	h := history.New(seed)
	if _, e := h.Append(list...); e != api.OK {
		t.Fatalf("Append: %v", e)
	}
	var w wire.Writer
	number := func(list ...uint64) {
		for _, n := range list {
			w.Num(n)
		}
	}
	number(2, 1)
	w.Text("w")
	number(1, 1, 1)
	w.Text("w")
	number(1)
	history.Write(&w, h)
	if e := l.Checkpoint(w.Bytes()); e != api.OK {
		t.Fatalf("Checkpoint: %v", e)
	}
}

// P28.1: a run's chain of sums.
func TestChain(t *testing.T) {
	first, second := api.Event{Time: 3, Kind: api.RunStarted, Name: "p"}, of(api.CancelRequested, 3, 0, 0)
	s := openStore(t, newDisk(t))
	writes(t, s,
		store.Change{Kind: store.Begin, Name: "w", Events: []api.Event{first}},
		store.Change{Kind: store.Begin, Name: "v", Events: []api.Event{first, second}},
		store.Change{Kind: store.Append, Run: 1, Events: []api.Event{second, {Time: 3, Kind: api.RunTerminated}}},
		store.Change{Kind: store.Begin, Name: "w", Events: []api.Event{first}},
		store.Change{Kind: store.Delete, Run: 1})
	for n, want := range map[int]api.Errno{-1: api.ErrMissing, 0: api.ErrMissing, 1: api.ErrMissing, 2: api.OK, 3: api.OK, 4: api.ErrMissing, math.MaxInt: api.ErrMissing} {
		if got := Chain(s, n); got != want {
			t.Errorf("the run %d: %v, want %v", n, got, want)
		}
	}
	for seed, want := range map[api.Sum]api.Errno{history.Seed("w", 1): api.OK, history.Seed("w", 2): api.ErrSum, history.Seed("v", 1): api.ErrSum, {}: api.ErrSum} {
		d := newDisk(t)
		strange(t, d, seed, first, second)
		if got := Chain(openStore(t, d), 1); got != want {
			t.Errorf("another seed: %v, want %v", got, want)
		}
		d = newDisk(t)
		strange(t, d, seed)
		if got := Chain(openStore(t, d), 1); got != want {
			t.Errorf("another seed, and no events: %v, want %v", got, want)
		}
	}
}
