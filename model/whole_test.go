package model

import (
	"math/rand"
	"slices"
	"strings"
	"testing"

	"foliot/api"
	"foliot/cluster"
	"foliot/engine"
	"foliot/replay"
	"foliot/value"
)

func newCluster(t *testing.T, sectors, room int, programs engine.Programs) *cluster.Cluster {
	t.Helper()
	c, e := cluster.New(sectors, 3, room, programs)
	if e != api.OK {
		t.Fatalf("cluster.New: %v", e)
	}
	return c
}

// anything: a step by chance.
func anything(r *rand.Rand) cluster.Step {
	s := cluster.Step{Name: pick(r, "u", "v", "w"), Worker: 1 + r.Intn(3), Keep: r.Intn(5), Text: "why", Value: value.Of(r.Int63n(3))}
	switch k := r.Intn(100); {
	case k < 14:
		s.Kind, s.Text, s.N, s.Again = cluster.Start, pick(r, "sleep", "ears", "either", "down", "quick", "pay", "early", "two", "fails", "traps"), pick[int64](r, 0, 0, 9), pick(r, "", "", "*/5 * * * *")
	case k < 28:
		s.Kind, s.Text, s.N = cluster.Signal, pick(r, "go", "stop"), r.Int63n(140)
	case k < 31:
		s.Kind, s.N = pick(r, cluster.Cancel, cluster.Terminate, cluster.Forget), r.Int63n(20)
	case k < 60:
		s.Kind, s.N = pick(r, cluster.Work, cluster.Work, cluster.Work, cluster.Take, cluster.Done), r.Int63n(140)
	case k < 72:
		s.Kind, s.N = pick(r, cluster.Call, cluster.End, cluster.Fault), r.Int63n(140)
	case k < 76:
		s.Kind, s.N = pick(r, cluster.Drop, cluster.Lose, cluster.Evict), r.Int63n(20)
	case k < 92:
		s.Kind, s.N = cluster.Tick, r.Int63n(6)
	default:
		s.Kind, s.N = pick(r, cluster.Crash, cluster.Fuse), r.Int63n(10)
	}
	return s
}

// wantRight: nothing is wrong with any run, and those that are settled are whole; how many these are.
func wantRight(t *testing.T, c *cluster.Cluster, programs engine.Programs) int {
	t.Helper()
	s := c.Engine().Store()
	if l := Check(s, programs); len(l) > 0 {
		t.Fatalf("%v; the first one: %q", l, printed(s.All(l[0].Run)))
	}
	settled := 0
	for _, info := range s.Runs() {
		list := s.All(info.Run)
		switch last := list[len(list)-1]; {
		case !c.Engine().State(info.Run).Settled(), last.Kind == api.RunTerminated, last.Kind == api.RunTimedOut:
			continue
		}
		settled++
		if !Whole(programs[list[0].Name].Image(), list...) {
			t.Fatalf("not whole: %q", printed(list))
		}
	}
	return settled
}

// came: what came to a run from outside, but for the numbers, as a text.
func came(list []api.Event) string {
	return strings.Join(printed(numbered(replay.Outside(list...)...)), "\n")
}

// P27.5: whatever happens in a cluster, and whenever the power goes: Check finds nothing; what is settled is whole; and runs to which the same came agree.
func TestWhatever(t *testing.T) {
	programs := loaded(t)
	settled, pairs := 0, 0
	had := map[string][]api.Event{} // runs, by what came to them
	for seed := range int64(600) {
		r := rand.New(rand.NewSource(seed))
		c := newCluster(t, pick(r, 34, 60, 1000), r.Intn(4), programs)
		for i := range pick(r, 20, 60, 300) {
			if e := c.Do(anything(r)).Code; e == api.ErrDown || i%30 == 0 {
				settled += wantRight(t, c, programs)
			}
		}
		settled += wantRight(t, c, programs)
		for _, info := range c.Engine().Store().Runs() {
			list := c.Engine().Store().All(info.Run)
			other, ok := had[came(list)]
			had[came(list)] = list
			if !ok || slices.Equal(printed(list), printed(other)) {
				continue
			}
			pairs++
			if same, agree := Agree(list, other); !same || !agree {
				t.Fatalf("%v, %v: %q and %q", same, agree, printed(list), printed(other))
			}
		}
	}
	if settled < 1000 || pairs < 20 {
		t.Errorf("%d runs were settled, %d pairs weren't just the same", settled, pairs)
	}
}

// spoil: something goes wrong, but nothing comes from outside by that.
func spoil(r *rand.Rand, c *cluster.Cluster) {
	worker := 1 + r.Intn(3)
	switch r.Intn(6) {
	case 0:
		c.Do(cluster.Step{Kind: cluster.Crash, Keep: r.Intn(4), N: r.Int63n(140)})
	case 1, 2:
		c.Do(cluster.Step{Kind: cluster.Fuse, N: r.Int63n(4)})
		c.Do(cluster.Step{Kind: cluster.Work, Worker: worker, Keep: r.Intn(4), N: r.Int63n(140)})
		c.Do(cluster.Step{Kind: cluster.Crash})
	case 3:
		c.Do(cluster.Step{Kind: cluster.Take, Worker: worker})
		c.Do(cluster.Step{Kind: cluster.Lose, Worker: worker})
	case 4:
		c.Do(cluster.Step{Kind: cluster.Evict, Worker: worker, N: 1 + r.Int63n(4)})
	case 5:
		if task, e := c.Engine().Poll(worker); e == api.OK {
			c.Engine().Fail(task.Token, pick(r, "", "bad luck"))
		}
	}
}

// rest: workers do their tasks, until all runs are settled; something goes wrong meanwhile, if there is a chance.
func rest(t *testing.T, r *rand.Rand, c *cluster.Cluster) {
	t.Helper()
	open := func(n int) bool { return !c.Engine().State(n).Settled() }
	for range 200 {
		if r != nil && r.Intn(3) > 0 {
			spoil(r, c)
		}
		for i := range c.Workers() {
			c.Do(cluster.Step{Kind: cluster.Work, Worker: i + 1})
		}
		c.Do(cluster.Step{Kind: cluster.Tick})
		var runs []int
		for _, info := range c.Engine().Store().Runs() {
			runs = append(runs, info.Run)
		}
		if !slices.ContainsFunc(runs, open) {
			return
		}
	}
	t.Fatal("it doesn't come to rest")
}

// outside: a step by chance by which something comes from outside.
func outside(r *rand.Rand) cluster.Step {
	s := cluster.Step{Name: pick(r, "u", "v", "w"), Worker: 1, Value: value.Of(r.Int63n(3))}
	switch r.Intn(10) {
	case 0, 1, 2:
		s.Kind, s.Text = cluster.Start, pick(r, "sleep", "ears", "either", "down", "pay", "early", "two", "fails", "traps")
	case 3, 4, 5:
		s.Kind, s.Text = cluster.Signal, pick(r, "go", "stop")
	case 6:
		s.Kind = pick(r, cluster.Cancel, cluster.Cancel, cluster.Terminate)
	case 7:
		s.Kind = cluster.Call
	case 8, 9:
		s.Kind, s.N = cluster.Tick, r.Int63n(5)
	}
	return s
}

// P27.5: in two scripts, of which in one much goes wrong, the same comes to the same.
func TestTwins(t *testing.T) {
	programs := loaded(t)
	differ := 0
	for seed := range int64(60) {
		r := rand.New(rand.NewSource(seed + 50))
		quiet, loud := newCluster(t, 2000, 0, programs), newCluster(t, 2000, 2, programs)
		for range 40 {
			s := outside(r)
			if quiet.Do(s).Code != loud.Do(s).Code {
				t.Fatalf("seed %d: %+v", seed, s)
			}
			if s.Kind == cluster.Call { // ahead of all that may make it lose that
				end := cluster.Step{Kind: cluster.End, Worker: 1, Value: s.Value}
				quiet.Do(end)
				loud.Do(end)
			}
			rest(t, nil, quiet)
			rest(t, r, loud)
		}
		a, b := quiet.Engine().Store(), loud.Engine().Store()
		if len(a.Runs()) != len(b.Runs()) || len(a.Runs()) < 3 {
			t.Fatalf("seed %d: %d and %d runs", seed, len(a.Runs()), len(b.Runs()))
		}
		for n, list := range a.Histories() {
			other := b.All(n)
			if same, agree := Agree(list, other); !same || !agree || len(replay.Made(list...)) != len(replay.Made(other...)) {
				t.Fatalf("seed %d: %v, %v: %q and %q", seed, same, agree, printed(list), printed(other))
			}
			if len(list) != len(other) {
				differ++
			}
		}
		wantRight(t, quiet, programs)
		wantRight(t, loud, programs)
	}
	if differ < 50 {
		t.Errorf("%d histories have more bookkeeping alone", differ)
	}
}

// P27.5: what comes to a run while a worker has its task is written ahead of what its program wanted; it fits all the same.
func TestMeanwhile(t *testing.T) {
	programs := loaded(t)
	c := newCluster(t, 1000, 1, programs)
	for _, s := range []cluster.Step{
		{Kind: cluster.Start, Name: "w", Text: "two"},
		{Kind: cluster.Work, Worker: 1},
		{Kind: cluster.Signal, Name: "w", Text: "go"},
		{Kind: cluster.Take, Worker: 1}, // it is to cancel the timer 1
		{Kind: cluster.Tick, N: 3},      // which fires
		{Kind: cluster.Done, Worker: 1},
		{Kind: cluster.Work, Worker: 1},
		{Kind: cluster.Tick, N: 5},
		{Kind: cluster.Work, Worker: 1},
	} {
		if e := c.Do(s).Code; e != api.OK {
			t.Fatalf("%+v: %v", s, e)
		}
	}
	if n := wantRight(t, c, programs); n != 1 || !c.Engine().State(1).Closed() {
		t.Errorf("%d runs are settled: %q", n, printed(c.Engine().Store().All(1)))
	}
}
