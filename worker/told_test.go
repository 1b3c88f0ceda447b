package worker

import (
	"math/rand"
	"reflect"
	"slices"
	"testing"

	"foliot/api"
	"foliot/command"
	"foliot/event"
	"foliot/replay"
)

// told is a worker as the document tells of it: it keeps whole jobs, and runs each program anew.
type told struct {
	room         int
	jobs         []Job
	hits, misses int64
}

// kept: where a job stands that goes on in this one; below 0: there is none.
func (w *told) kept(j Job) int {
	return slices.IndexFunc(w.jobs, func(k Job) bool {
		n := len(k.Events)
		return k.Run == j.Run && reflect.DeepEqual(k.Image, j.Image) && n <= len(j.Events) && (n == 0 || event.Same(k.Events[n-1], j.Events[n-1]))
	})
}

func (w *told) do(j Job) (Result, api.Errno) {
	r := Result{Read: len(j.Events)}
	if i := w.kept(j); i >= 0 {
		r.Cached, r.Read = true, len(j.Events)-len(w.jobs[i].Events)
		w.hits++
	} else {
		w.misses++
	}
	w.jobs = slices.DeleteFunc(w.jobs, func(k Job) bool { return k.Run == j.Run })
	p, e := replay.Replay(j.Image, j.Events...)
	if e != api.OK {
		return Result{}, e
	}
	w.jobs = append(w.jobs, Job{Run: j.Run, Image: j.Image, Events: slices.Clone(j.Events)})
	w.jobs = w.jobs[max(0, len(w.jobs)-w.room):]
	all := p.Pending()
	n := 0
	for size := 0; n < min(len(all), 256); n++ {
		e := command.Event(all[n])
		e.ID = 1
		b, _ := event.Encode(e)
		if size += len(b); n > 0 && size > 700 {
			break
		}
	}
	r.Commands, r.More = all[:n:n], n < len(all)
	return r, api.OK
}

// further: a history with something more: what comes from outside, bookkeeping, or what the program wants of it.
func further(r *rand.Rand, j Job) []api.Event {
	list := slices.Clone(j.Events)
	if len(list) == 0 {
		return fresh()[:1+r.Intn(3)]
	}
	at := list[len(list)-1].Time
	switch r.Intn(6) {
	case 0:
		list = append(list, signal(at, "go"))
	case 1:
		list = append(list, signal(at+1, "stop"))
	case 2:
		list = append(list, api.Event{Time: at, Kind: api.TaskScheduled, B: 1})
	case 3:
		list = append(list, api.Event{Time: at + 1, Kind: api.TimerFired, A: r.Int63n(4)})
	default:
		p, e := replay.Replay(j.Image, j.Events...)
		if e != api.OK {
			return list[:1]
		}
		for i, c := range p.Pending() {
			if i < 3 {
				list = append(list, command.Event(c))
			}
		}
	}
	return history(list...)
}

// twist: a history that isn't the one that was, at its end.
func twist(r *rand.Rand, list []api.Event) []api.Event {
	list = slices.Clone(list)
	if len(list) == 0 {
		return list
	}
	last := &list[len(list)-1]
	switch r.Intn(4) {
	case 0:
		return list[:r.Intn(len(list))]
	case 1:
		last.Time++
	case 2:
		last.ID++
	case 3:
		*last = api.Event{ID: len(list), Time: last.Time, Kind: api.CancelRequested}
	}
	return list
}

// P24.2 to P24.4: jobs by chance, against the document's words.
func TestJobs(t *testing.T) {
	r := rand.New(rand.NewSource(24))
	images := []api.Image{
		program(t, sleeper),
		program(t, ears),
		program(t, "start:; signal \"go\"; push 9; push 0; call \"pay\"; pop; timer; cancel; pop; jump start"),
		program(t, "push 3; timer; either \"stop\"; pop; again"),
	}
	for room := range 6 {
		w, model := newWorker(t, room), &told{room: room}
		jobs := make([]Job, 4)
		for n := range jobs {
			jobs[n] = Job{Run: n, Image: images[n]}
		}
		for range 600 {
			j := &jobs[r.Intn(len(jobs))]
			switch k := r.Intn(40); {
			case k < 2:
				j.Image = images[r.Intn(len(images))]
			case k < 4:
				j.Events = nil
			case k < 7:
				j.Events = twist(r, j.Events)
			case k < 30:
				j.Events = further(r, *j)
			case k == 30:
				n := r.Intn(len(jobs))
				got := w.Evict(n)
				was := len(model.jobs)
				model.jobs = slices.DeleteFunc(model.jobs, func(k Job) bool { return k.Run == n })
				if got != (len(model.jobs) < was) {
					t.Fatalf("Evict(%d): %v", n, got)
				}
			}
			got, e := w.Do(*j)
			want, f := model.do(*j)
			if e != f || len(got.Commands)+len(want.Commands) > 0 && !reflect.DeepEqual(got, want) || got.More != want.More || got.Cached != want.Cached || got.Read != want.Read {
				t.Fatalf("Do of the run %d, %d events: %+v, %v, want %+v, %v", j.Run, len(j.Events), got, e, want, f)
			}
			var cached []int
			for _, k := range model.jobs {
				cached = append(cached, k.Run)
			}
			wantCached(t, w, cached...)
			wantCounts(t, w, model.hits, model.misses)
		}
		if room > 2 && model.hits < 100 {
			t.Errorf("%d hits, %d misses", model.hits, model.misses)
		}
	}
}
