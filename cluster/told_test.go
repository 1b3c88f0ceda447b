package cluster

import (
	"fmt"
	"math/rand"
	"reflect"
	"slices"
	"strconv"
	"testing"

	"foliot/api"
	"foliot/disk"
	"foliot/engine"
	"foliot/value"
	"foliot/worker"
)

// words is a cluster as the document tells of it, over a server and a disk of its own.
type words struct {
	d        *disk.Disk
	x        *engine.Engine
	programs engine.Programs
	minds    map[int]*worker.Worker
	tasks    map[int]engine.Task // by the workers that have them
	calls    map[int]engine.Call
}

func newWords(t *testing.T, sectors, workers, room int, programs engine.Programs) *words {
	t.Helper()
	d, e := disk.New(sectors)
	want(t, "disk.New", e, api.OK)
	x, e := engine.Open(d, programs, 0)
	want(t, "Open", e, api.OK)
	m := &words{d: d, x: x, programs: programs, minds: map[int]*worker.Worker{}, tasks: map[int]engine.Task{}, calls: map[int]engine.Call{}}
	for id := 1; id <= workers; id++ {
		m.minds[id], e = worker.New(room)
		want(t, "worker.New", e, api.OK)
	}
	return m
}

func clamp(n, low, high int64) int64 {
	switch {
	case n < low:
		return low
	case n > high:
		return high
	}
	return n
}

// crash: the first sectors are durable, one is torn, the rest is gone; the server comes again.
func (m *words) crash(keep int, n int64) {
	whole, torn := []int{}, -5
	for i, sector := range m.d.Pending() {
		if i < keep {
			whole = append(whole, sector)
		} else if i == max(keep, 0) {
			torn = sector
		}
	}
	m.d.Crash(whole, torn, int(clamp(n, 0, 128)))
	m.d.Up()
	m.x, _ = engine.Open(m.d, m.programs, m.x.Now())
	clear(m.tasks)
	clear(m.calls)
}

func code(e api.Errno) Reply { return Reply{Code: e} }

// two: what is answered with a number, unless there is an error.
func two(n int64, v api.Value, e api.Errno) Reply {
	if e != api.OK {
		return code(e)
	}
	return Reply{N: n, Value: v}
}

func (m *words) do(s Step) Reply {
	r := m.step(s)
	if r.Code == api.ErrDown {
		m.crash(s.Keep, s.N)
		return code(api.ErrDown)
	}
	return r
}

func (m *words) step(s Step) Reply {
	x := m.x
	switch s.Kind {
	case Crash:
		m.crash(s.Keep, s.N)
		return Reply{}
	case Fuse:
		m.d.Fuse(int(clamp(s.N, 0, 1<<20)))
		return Reply{}
	case Start:
		n, e := x.Start(s.Name, s.Text, s.Value, s.N, s.Again)
		return two(int64(n), api.Value{}, e)
	case Signal:
		return code(x.Signal(s.Name, s.Text, s.Value))
	case Cancel:
		return code(x.Cancel(s.Name))
	case Terminate:
		return code(x.Terminate(s.Name, s.Text))
	case Query:
		a, e := x.Query(s.Name)
		return two(int64(a.Waits), value.Text(a.Name), e)
	case Describe:
		n := x.Store().Find(s.Name)
		info, e := x.Store().Info(n)
		if e != api.OK {
			return code(api.ErrMissing)
		}
		state, _, _ := x.State(n).Task()
		closed := 0
		if info.Closed {
			closed = 1
		}
		v, _ := value.Parse(fmt.Sprintf("[%d %d %d %d %d]", info.Len, closed, len(x.State(n).Timers()), len(x.State(n).Activities()), state))
		return two(int64(n), v, api.OK)
	case Forget:
		return code(x.Forget(int(clamp(s.N, 0, 1<<31))))
	case Tick:
		if s.N != clamp(s.N, 0, 1<<20) {
			return code(api.ErrRange)
		}
		e := x.Tick(int(s.N))
		return two(x.Now(), api.Value{}, e)
	}
	return m.workerStep(s)
}

func (m *words) workerStep(s Step) Reply {
	x, id := m.x, s.Worker
	if m.minds[id] == nil {
		return code(api.ErrRange)
	}
	task, busy := m.tasks[id]
	call, calling := m.calls[id]
	switch s.Kind {
	case Take, Work:
		if busy {
			return code(api.ErrBusy)
		}
		task, e := x.Poll(id)
		if e != api.OK {
			return code(e)
		}
		m.tasks[id] = task
		if s.Kind == Work {
			return m.step(Step{Kind: Done, Worker: id})
		}
		return two(int64(task.Job.Run), api.Value{}, api.OK)
	case Done:
		if !busy {
			return code(api.ErrMissing)
		}
		delete(m.tasks, id)
		r, e := m.minds[id].Do(task.Job)
		if e != api.OK {
			if other := x.Fail(task.Token, "nondeterminism"); other != api.OK {
				return code(other)
			}
			return code(e)
		}
		return two(int64(task.Job.Run), value.Of(int64(len(r.Commands))), x.Complete(task.Token, r.More, r.Commands...))
	case Call:
		if calling {
			return code(api.ErrBusy)
		}
		c, e := x.PollCall(id)
		if e == api.OK {
			m.calls[id] = c
		}
		return two(c.ID, c.Input, e)
	case End, Fault:
		if !calling {
			return code(api.ErrMissing)
		}
		delete(m.calls, id)
		if s.Kind == End {
			return code(x.CompleteCall(call.Token, s.Value))
		}
		return code(x.FailCall(call.Token, s.Text))
	case Drop, Lose:
		delete(m.tasks, id)
		delete(m.calls, id)
		if s.Kind == Drop {
			return Reply{}
		}
		m.minds[id].Clear()
		return code(x.Lose(id))
	case Evict:
		m.minds[id].Evict(int(clamp(s.N, 0, 1<<31)))
		return Reply{}
	}
	return code(api.ErrKind)
}

// tale: all that it tells, as a cluster's.
func (m *words) tale() tale {
	var hands []any
	for id := 1; id <= len(m.minds); id++ {
		w := m.minds[id]
		hands = append(hands, id, m.tasks[id], m.calls[id].Token, w.Cached(), w.Hits(), w.Misses())
	}
	return tale{
		now: m.x.Now(), state: string(m.x.Store().State()), hands: hands, sectors: sure(m.d),
		waiting: m.x.Match().Waiting(), leases: m.x.Match().Leases(), given: m.x.Match().Given(),
	}
}

// pick: one of a list.
func pick[T any](r *rand.Rand, list ...T) T { return list[r.Intn(len(list))] }

// number: small ones mostly, others at the ends.
func number(r *rand.Rand, most int64) int64 {
	if r.Intn(30) == 0 {
		return pick[int64](r, -1<<63, -1, 128, 129, 1<<20, 1<<20+1, 1<<31, 1<<31+1, 1<<63-1)
	}
	return r.Int63n(most)
}

// chance: a step by chance; the power goes in some.
func chance(r *rand.Rand, power bool) Step {
	s := Step{Name: pick(r, "u", "v", "w"), Worker: 1 + r.Intn(3), Keep: r.Intn(7) - 1}
	if r.Intn(40) == 0 {
		s.Worker = pick(r, -1, 0, 4, 9)
	}
	switch k := r.Intn(100); {
	case k < 10:
		s.Kind, s.Text, s.Value = Start, pick(r, "sleep", "ears", "either", "down", "quick", "pay", "pay", "none"), value.Of(r.Int63n(3))
		s.N, s.Again = pick[int64](r, 0, 0, 0, 3, 30, -1), pick(r, "", "", "", "* * * * *", "*/7 * * * *", "x")
	case k < 18:
		s.Kind, s.Text, s.Value, s.N = Signal, pick(r, "go", "stop"), value.Of(r.Int63n(9)), number(r, 140)
	case k < 22:
		s.Kind, s.Text, s.N = pick(r, Cancel, Terminate), pick(r, "why", "x"), number(r, 140)
	case k < 26:
		s.Kind = pick(r, Query, Describe)
	case k < 30:
		s.Kind, s.N = Forget, number(r, 12)
	case k < 55:
		s.Kind, s.N = pick(r, Work, Work, Work, Take, Done), number(r, 140)
	case k < 72:
		s.Kind, s.Text, s.Value, s.N = pick(r, Call, Call, End, Fault), pick(r, "why", "x"), value.List(value.Of(r.Int63n(9))), number(r, 140)
	case k < 76:
		s.Kind = pick(r, Drop, Lose)
	case k < 79:
		s.Kind, s.N = Evict, number(r, 12)
	case k < 91:
		s.Kind, s.N = Tick, number(r, 8)
	case k < 93:
		s.Kind, s.N = Crash, number(r, 140)
	case k < 98 && power:
		s.Kind, s.N = Fuse, number(r, 9)
	default:
		s.Kind, s.N = r.Intn(24)-2, number(r, 9)
	}
	return s
}

// P26.2 to P26.4: steps by chance, against the document's words, with room and without.
func TestSteps(t *testing.T) {
	for seed := range int64(12) {
		r := rand.New(rand.NewSource(seed))
		sectors := pick(r, 34, 50, 100, 400)
		programs := all(t)
		c, m := newCluster(t, sectors, 3, 2, programs), newWords(t, sectors, 3, 2, programs)
		codes := map[string]int{}
		for i := range 700 {
			s := chance(r, seed%3 > 0)
			if i == 500 { // a worker meets another program than that which was
				programs["sleep"] = parsed(t, "sleep", "push 4; timer; wait; return")
			}
			got, want := c.Do(s), m.do(s)
			if !reflect.DeepEqual(got, want) {
				t.Fatalf("seed %d, step %d, %+v: %+v, want %+v", seed, i, s, got, want)
			}
			codes[strconv.Itoa(s.Kind)+" "+strconv.Itoa(int(got.Code))]++
			if i%5 == 0 || got.Code == api.ErrDown {
				if other := differs(told(c), m.tale()); other != "" {
					t.Fatalf("seed %d, step %d, %+v: %s", seed, i, s, other)
				}
			}
			if !c.Engine().Right() {
				t.Fatalf("seed %d, step %d, %+v: not right", seed, i, s)
			}
		}
		if codes["8 0"] < 20 {
			t.Errorf("seed %d: %v", seed, codes)
		}
	}
}

// P26.5, P2: two clusters to which the same happens are the same, and answer the same; what they answer they share with nobody.
func TestSame(t *testing.T) {
	for seed := range int64(4) {
		r := rand.New(rand.NewSource(seed + 100))
		var steps []Step
		for range 600 {
			s := chance(r, true)
			s.Kind, s.Worker, s.Keep = s.Kind&255, max(s.Worker, 0), max(s.Keep, 0) // as it is written
			steps = append(steps, s)
		}
		script := written(steps...)
		c, other := newCluster(t, 100, 3, 2, all(t)), newCluster(t, 100, 3, 2, all(t))
		first := c.Play(script)
		if len(first) < 590 {
			t.Fatalf("%d steps were done", len(first))
		}
		var second []Reply
		for _, s := range steps {
			s.Value = value.Clone(s.Value)
			x := other.Do(s)
			second = append(second, Reply{Code: x.Code, N: x.N, Value: value.Clone(x.Value)})
			for _, list := range [][]api.Value{s.Value.List, x.Value.List} {
				for i := range list {
					list[i] = value.Text("changed")
				}
				_ = append(list, value.Text("more"))
			}
		}
		for i := range first {
			if first[i].Code != second[i].Code || first[i].N != second[i].N || !value.Same(first[i].Value, second[i].Value) {
				t.Fatalf("%+v: %+v, and %+v", steps[i], first[i], second[i])
			}
		}
		if other := differs(told(c), told(other)); other != "" {
			t.Fatalf("seed %d: %s", seed, other)
		}
	}
}

// P26.5: what was answered is kept, whatever happens; what wasn't is kept once or not at all.
func TestKept(t *testing.T) {
	cuts := 0
	for seed := range int64(8) {
		r := rand.New(rand.NewSource(seed + 200))
		c := newCluster(t, 1000, 3, 2, all(t))
		names, sent, lost := map[int]string{}, map[int64]int{}, map[int64]int{} // signals, by their values: to which run
		for i := range int64(500) {
			s := chance(r, true)
			switch {
			case s.Kind == Forget:
				continue
			case s.Kind == Signal:
				s.Value = value.Of(1000 + i)
			}
			run := c.Engine().Store().Find(s.Name)
			reply := c.Do(s)
			if reply.Code == api.ErrDown {
				cuts++
			}
			switch {
			case s.Kind == Signal && reply.Code == api.OK:
				sent[1000+i] = run
			case s.Kind == Signal && reply.Code == api.ErrDown:
				lost[1000+i] = run
			case s.Kind == Start && reply.Code == api.OK:
				names[int(reply.N)] = s.Name
			}
		}
		does(t, c, Step{Kind: Crash})
		had := map[int64]int{}
		for n, list := range c.Engine().Store().Histories() {
			for _, e := range list {
				if e.Kind == api.SignalReceived {
					had[e.Value.N]++
					if sent[e.Value.N] != n && lost[e.Value.N] != n {
						t.Fatalf("seed %d: the signal %d came to the run %d", seed, e.Value.N, n)
					}
				}
			}
		}
		for v := range sent {
			if had[v] != 1 {
				t.Errorf("seed %d: the signal %d is there %d times", seed, v, had[v])
			}
		}
		for v := range lost {
			if had[v] > 1 {
				t.Errorf("seed %d: the signal %d is there %d times", seed, v, had[v])
			}
		}
		for n, name := range names {
			if info, e := c.Engine().Store().Info(n); e != api.OK || info.Name != name {
				t.Errorf("seed %d: the run %d is of %q, %v", seed, n, info.Name, e)
			}
		}
	}
	if cuts < 50 {
		t.Errorf("the power went %d times alone", cuts)
	}
}

// P26.5: whenever the power goes in a step, and whatever is durable then: of one batch all is kept, or nothing; of several the first ones.
func TestCuts(t *testing.T) {
	script := []Step{
		{Kind: Start, Name: "w", Text: "pay", Value: value.Of(3)}, {Kind: Start, Name: "v", Text: "ears"}, {Kind: Start, Name: "u", Text: "sleep", N: 90},
		{Kind: Work, Worker: 1}, {Kind: Take, Worker: 2}, {Kind: Call, Worker: 3}, {Kind: Signal, Name: "v", Text: "go", Value: value.Text("x")},
		{Kind: Done, Worker: 2}, {Kind: Fault, Worker: 3, Text: "no"}, {Kind: Work, Worker: 1}, {Kind: Tick, N: 2}, {Kind: Call, Worker: 1},
		{Kind: End, Worker: 1, Value: value.Of(1)}, {Kind: Take, Worker: 2}, {Kind: Lose, Worker: 2}, {Kind: Cancel, Name: "v"}, {Kind: Tick, N: 3},
		{Kind: Work, Worker: 1}, {Kind: Work, Worker: 3}, {Kind: Terminate, Name: "v", Text: "why"}, {Kind: Forget, N: 2}, {Kind: Tick, N: 100},
	}
	several := []int{Work, Tick, Lose}
	for i, s := range script {
		ahead := newCluster(t, 66, 3, 2, all(t))
		for _, x := range script[:i] {
			ahead.Do(x)
		}
		before := string(ahead.Engine().Store().State())
		ahead.Do(s)
		after := string(ahead.Engine().Store().State())
		cuts := 0
		for fuse := int64(0); ; fuse++ {
			down := false
			for keep := range 4 {
				for _, n := range []int64{0, 1, 60, 127, 128} {
					cut := s
					cut.Keep = keep
					if s.Kind != Tick && s.Kind != Start && s.Kind != Forget {
						cut.N = n
					}
					c := newCluster(t, 66, 3, 2, all(t))
					for _, x := range script[:i] {
						c.Do(x)
					}
					does(t, c, Step{Kind: Fuse, N: fuse})
					if r := c.Do(cut); r.Code != api.ErrDown {
						continue
					}
					down = true
					cuts++
					got := string(c.Engine().Store().State())
					if got != before && got != after && !slices.Contains(several, s.Kind) {
						t.Fatalf("%+v, the power goes behind %d: neither what was nor what was to be", cut, fuse)
					}
					if now := ahead.Engine().Now(); c.Engine().Now() != now || !c.Engine().Right() || c.Disk().Down() {
						t.Fatalf("%+v, the power goes behind %d: at %d, want %d", cut, fuse, c.Engine().Now(), now)
					}
					between(t, c, ahead, fmt.Sprintf("%+v, the power goes behind %d", cut, fuse))
				}
			}
			if !down {
				break
			}
		}
		if cuts == 0 && before != after {
			t.Errorf("%+v: the power didn't go", s)
		}
	}
}

// between: each run has a beginning of the history that it would have had; one that was forgotten doesn't count.
func between(t *testing.T, c, whole *Cluster, what string) {
	t.Helper()
	for _, info := range c.Engine().Store().Runs() {
		got, want := history(c, info.Run), history(whole, info.Run)
		if len(want) > 0 && (len(got) > len(want) || !slices.Equal(got, want[:len(got)])) {
			t.Fatalf("%s: the run %d: %q, want a beginning of %q", what, info.Run, got, want)
		}
	}
}
