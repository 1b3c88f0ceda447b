package timers

import (
	"math"
	"math/big"
	"math/rand"
	"slices"
	"testing"

	"foliot/api"
	"foliot/heap"
)

// told is what is due as layer 17's words tell of it: things in no order, looked through from end to end.
type told []heap.Item

func (m *told) where(run, kind int, id int64) int {
	return slices.IndexFunc(*m, func(it heap.Item) bool { return it.Run == run && it.Kind == kind && it.ID == id })
}

func (m *told) put(run, kind int, id, due int64) api.Errno {
	if m.where(run, kind, id) >= 0 {
		return api.ErrTwice
	}
	if len(*m) == 16384 {
		return api.ErrFull
	}
	*m = append(*m, heap.Item{Key: heap.Key{Run: run, Kind: kind, ID: id}, Due: due})
	return api.OK
}

// both: two ticks together, not beyond the last one; nought, if one is below nought.
func both(a, b int64) int64 {
	if a < 0 || b < 0 {
		return 0
	}
	n := new(big.Int).Add(big.NewInt(a), big.NewInt(b))
	if n.Cmp(big.NewInt(last)) > 0 {
		return last
	}
	return n.Int64()
}

func (m *told) apply(run int, e api.Event) api.Errno {
	switch e.Kind {
	case 1:
		if e.A > 0 {
			return m.put(run, 2, 0, both(e.Time, e.A))
		}
	case 11:
		return m.put(run, 1, e.A, e.B)
	case 12, 13:
		i := m.where(run, 1, e.A)
		if i < 0 {
			return api.ErrMissing
		}
		*m = slices.Delete(*m, i, i+1)
	case 16, 17, 18, 19, 20, 21:
		*m = slices.DeleteFunc(*m, func(it heap.Item) bool { return it.Run == run })
	}
	return api.OK
}

// list: the things in order, each sought by itself.
func (m *told) list() []heap.Item {
	var list []heap.Item
	for rest := slices.Clone(*m); len(rest) > 0; {
		first := 0
		for i, it := range rest {
			if ahead(it, rest[first]) {
				first = i
			}
		}
		list = append(list, rest[first])
		rest = slices.Delete(rest, first, first+1)
	}
	return list
}

func ahead(a, b heap.Item) bool {
	if a.Due != b.Due {
		return a.Due < b.Due
	}
	if a.Run != b.Run {
		return a.Run < b.Run
	}
	if a.Kind != b.Kind {
		return a.Kind < b.Kind
	}
	return a.ID < b.ID
}

func (m *told) fires(now int64) []Fire {
	var list []Fire
	for _, it := range m.list() {
		out := slices.ContainsFunc(list, func(f Fire) bool { return f.Run == it.Run && f.Event.Kind == api.RunTimedOut })
		switch {
		case it.Due > now || out:
		case it.Kind == 1:
			list = append(list, firing(it.Run, it.ID, now))
		default:
			list = append(list, timedOut(it.Run, now))
		}
	}
	return list
}

// number: one of a few, some of them wrong.
func number(r *rand.Rand) int64 {
	if r.Intn(30) == 0 {
		wrong := []int64{math.MinInt64, -1, 1 << 62, math.MaxInt64, last}
		return wrong[r.Intn(len(wrong))]
	}
	return r.Int63n(6)
}

func anEvent(r *rand.Rand) api.Event {
	kinds := []int{api.RunStarted, api.TimerStarted, api.TimerStarted, api.TimerStarted, api.TimerStarted, api.TimerFired, api.TimerCanceled}
	e := api.Event{Time: number(r), A: number(r), B: number(r)}
	switch r.Intn(12) {
	case 0:
		e.Kind = r.Intn(24) - 1
	default:
		e.Kind = kinds[r.Intn(len(kinds))]
	}
	return e
}

// P1 and P17.1 to P17.3: events by chance, against the document's words.
func TestSteps(t *testing.T) {
	r := rand.New(rand.NewSource(17))
	for range 60 {
		q, m := &Queue{}, &told{}
		for range 200 {
			run, e := r.Intn(4)-1, anEvent(r)
			if got, want := q.Apply(run, e), m.apply(run, e); got != want {
				t.Fatalf("Apply(%d, %+v): %v, want %v", run, e, got, want)
			}
			wantList(t, q, m.list()...)
			now := number(r)
			wantFires(t, q, now, m.fires(now)...)
			run, id := r.Intn(4)-1, number(r)
			if got, want := q.Open(run, id), m.where(run, 1, id) >= 0; got != want {
				t.Fatalf("Open(%d, %d): %v", run, id, got)
			}
		}
	}
}

// histories of some runs, each of which may be told to a queue.
func histories(r *rand.Rand) map[int][]api.Event {
	runs := map[int][]api.Event{}
	for range r.Intn(6) {
		run, m := r.Intn(40)-5, &told{}
		runs[run] = nil
		for range r.Intn(20) {
			if e := anEvent(r); m.apply(0, e) == api.OK {
				runs[run] = append(runs[run], e)
			}
		}
	}
	return runs
}

// P17.4, P17.2: whatever the order in which runs are read, each in its own, it is the same queue.
func TestOfWhateverOrder(t *testing.T) {
	r := rand.New(rand.NewSource(18))
	for range 400 {
		runs := histories(r)
		q, code := Of(runs)
		if code != api.OK {
			t.Fatalf("Of: %v", code)
		}
		m, mixed := &told{}, &Queue{}
		left := map[int][]api.Event{}
		var turns []int
		for run, list := range runs {
			left[run] = list
			for _, e := range list {
				m.apply(run, e)
				turns = append(turns, run)
			}
		}
		slices.Sort(turns)
		r.Shuffle(len(turns), func(i, j int) { turns[i], turns[j] = turns[j], turns[i] })
		for _, run := range turns {
			apply(t, mixed, run, left[run][0])
			left[run] = left[run][1:]
		}
		wantList(t, q, m.list()...)
		wantList(t, mixed, m.list()...)
		if !Same(q, mixed) || !Same(mixed, q) {
			t.Fatalf("Same: false, of %v and %v", q.List(), mixed.List())
		}
		now := number(r)
		wantFires(t, mixed, now, q.Fires(now)...)
	}
}

// P17.4: histories by chance that may be wrong: the first error of the runs by their numbers.
func TestOfAny(t *testing.T) {
	r := rand.New(rand.NewSource(19))
	failed := 0
	for range 600 {
		runs := histories(r)
		for range r.Intn(3) {
			run := r.Intn(40) - 5
			runs[run] = append(runs[run], anEvent(r))
		}
		m, want := &told{}, api.OK
		for run := -5; run < 35 && want == api.OK; run++ {
			for _, e := range runs[run] {
				if want = m.apply(run, e); want != api.OK {
					failed++
					break
				}
			}
		}
		q, code := Of(runs)
		if code != want || (q == nil) != (want != api.OK) {
			t.Fatalf("Of(%+v): %v, want %v", runs, code, want)
		}
		if q != nil {
			wantList(t, q, m.list()...)
		}
	}
	if failed < 50 {
		t.Errorf("only %d of them were wrong", failed)
	}
}
