package audit

import (
	"fmt"
	"math/rand"
	"strings"
	"testing"

	"foliot/api"
	"foliot/asm"
	"foliot/cluster"
	"foliot/engine"
	"foliot/event"
	"foliot/image"
	"foliot/model"
	"foliot/policy"
	"foliot/value"
)

// author writes programs by chance, statement by statement; each begins and ends with nothing on the stack. The places 0 to 2 are for timers, 3 and 4 for activities, 5 and 6 for values, 7 to 9 for counters.
type author struct {
	r      *rand.Rand
	lines  []string
	labels int
	loops  int
	begun  []int // the places of timers and activities that were begun, and of which nothing was asked yet
}

// say: lines with `;` between them.
func (a *author) say(format string, args ...any) {
	for _, line := range strings.Split(fmt.Sprintf(format, args...), ";") {
		if line = strings.TrimSpace(line); !strings.HasSuffix(line, ":") {
			line = "  " + line
		}
		a.lines = append(a.lines, line)
	}
}

func (a *author) label() string {
	a.labels++
	return fmt.Sprintf("x%d", a.labels)
}

// begin: a place of a timer or an activity that is begun now.
func (a *author) begin(place int) int {
	a.begun = append(a.begun, place)
	return place
}

// ask: one of so many places, from one on, that was begun, and isn't asked for again; seldom any one; false: there is none.
func (a *author) ask(from, many int) (int, bool) {
	for i, place := range a.begun {
		if from <= place && place < from+many {
			a.begun = append(a.begun[:i:i], a.begun[i+1:]...)
			return place, true
		}
	}
	return from + a.r.Intn(many), a.r.Intn(10) == 0
}

// schedule: an activity.
func (a *author) schedule() {
	r := a.r
	p := policy.Policy{Tries: r.Intn(4), First: r.Int63n(4), Factor: 1 + r.Int63n(3), Most: r.Int63n(9), Limit: r.Int63n(3) * 10}
	n, e := p.Number()
	if e != api.OK {
		panic(e)
	}
	input := pick(r, `nil`, `[1 "x"]`, `"`+strings.Repeat("long ", 40)+`"`)
	a.say("push %s; push %d; call %q; store %d", input, n, pick(r, "pay", "ship"), a.begin(3+r.Intn(2)))
}

func (a *author) statement(deep int) {
	r := a.r
	name := pick(r, "go", "stop")
	switch r.Intn(13) {
	case 0, 1:
		a.say("push %d; timer; store %d", pick(r, 0, 1, 3, 7, 30, 200), a.begin(r.Intn(3)))
	case 2, 3, 4:
		if timer, ok := a.ask(0, 3); ok {
			a.say(pick(r, "load %d; wait; store 5", "load %d; cancel; store 6", `load %d; either "go"; store 6; store 5`), timer)
		}
	case 5:
		a.schedule()
	case 6:
		if activity, ok := a.ask(3, 2); ok {
			a.say("load %d; join; store 5; store 6", activity)
		}
	case 7:
		a.say("signal %q; store 5", name)
	case 8:
		a.say("poll %q; store 6; store 5", name)
	case 9:
		a.say("%s; store %d", pick(r, "now", "asked", "input"), 5+r.Intn(2))
	case 10:
		if deep < 2 {
			l := a.label()
			a.say("load %d; unless %s", 5+r.Intn(2), l)
			a.statements(deep + 1)
			a.say("%s:", l)
		}
	case 11, 12:
		if deep < 2 && a.loops < 3 {
			a.loop(deep)
		}
	}
}

func (a *author) statements(deep int) {
	for range 1 + a.r.Intn(5) {
		a.statement(deep)
	}
}

// loop: some rounds, each with something for which it may wait.
func (a *author) loop(deep int) {
	place := 7 + a.loops
	a.loops++
	again, out := a.label(), a.label()
	a.say("push 0; store %d; %s:", place, again)
	a.statements(deep + 1)
	a.say("push %d; timer; %s", a.r.Intn(3), pick(a.r, "wait; pop", `either "go"; pop; pop`))
	a.say("load %d; push 1; add; store %d; load %d; push %d; less; unless %s; jump %s; %s:", place, place, place, 2+a.r.Intn(12), out, again, out)
}

// program: one of these programs, with a name.
func (a *author) program(t *testing.T, name string) *image.Program {
	t.Helper()
	*a = author{r: a.r}
	for i := range 3 {
		a.say("push %d; timer; store %d", a.r.Intn(9), a.begin(i))
	}
	a.statements(0)
	a.statements(0)
	switch l := a.label(); a.r.Intn(4) {
	case 0:
		a.say(`fail "why"`)
	case 1:
		a.say("input; unless %s; input; push 1; sub; again; %s:; load 5; return", l, l)
	default:
		a.say("load 6; load 5; pack 2; return")
	}
	p, f := asm.Parse(strings.Join(a.lines, "\n") + "\n")
	if f.Code != api.OK {
		t.Fatalf("%+v: %q", f, a.lines)
	}
	x, e := image.New(name, p)
	if e != api.OK {
		t.Fatalf("image.New: %v", e)
	}
	return x
}

func pick[T any](r *rand.Rand, list ...T) T { return list[r.Intn(len(list))] }

// anything: a step by chance; the power goes in some.
func anything(r *rand.Rand, power bool) cluster.Step {
	s := cluster.Step{Name: pick(r, "u", "v", "w", "x"), Worker: 1 + r.Intn(3), Keep: r.Intn(6), Text: "why", Value: value.Of(r.Int63n(3))}
	switch k := r.Intn(100); {
	case k < 10:
		s.Kind, s.Text, s.N = cluster.Start, pick(r, "a", "b", "c"), pick[int64](r, 0, 0, 0, 0, 5, 100)
	case k < 24:
		s.Kind, s.Text, s.N = cluster.Signal, pick(r, "go", "stop", "else"), r.Int63n(140)
	case k < 27:
		s.Kind, s.N = pick(r, cluster.Cancel, cluster.Terminate, cluster.Forget), r.Int63n(30)
	case k < 60:
		s.Kind, s.N = pick(r, cluster.Work, cluster.Work, cluster.Take, cluster.Done), r.Int63n(140)
	case k < 72:
		s.Kind, s.N = pick(r, cluster.Call, cluster.Call, cluster.End, cluster.Fault), r.Int63n(140)
	case k < 78:
		s.Kind, s.N = pick(r, cluster.Drop, cluster.Lose, cluster.Evict), r.Int63n(20)
	case k < 92 || !power:
		s.Kind, s.N = cluster.Tick, r.Int63n(4)
	default:
		s.Kind, s.N = pick(r, cluster.Crash, cluster.Fuse), r.Int63n(12)
	}
	return s
}

// wrong: what is wrong in a cluster; empty: nothing.
func wrong(c *cluster.Cluster, programs engine.Programs) string {
	s := c.Engine().Store()
	if l := Look(c); len(l) > 0 {
		return fmt.Sprintf("Look: %+v", l)
	}
	if l := model.Check(s, programs); len(l) > 0 {
		return fmt.Sprintf("Check: %+v", l)
	}
	for _, info := range s.Runs() {
		list := s.All(info.Run)
		last := list[len(list)-1].Kind
		if c.Engine().State(info.Run).Settled() && last != api.RunTerminated && last != api.RunTimedOut && !model.Whole(programs[list[0].Name].Image(), list...) {
			return fmt.Sprintf("the run %d is settled, and not whole", info.Run)
		}
	}
	return ""
}

// P27.5, P28.5: whatever programs there are, and whatever happens, nothing is found; and Drive brings each run to its end, or to wait for a signal alone, if there is room and the power stays.
func TestWhatever(t *testing.T) {
	ends := map[string]int{}
	for seed := range int64(150) {
		r := rand.New(rand.NewSource(seed))
		a := &author{r: r}
		programs, codes := cluster.Load(a.program(t, "a"), a.program(t, "b"), a.program(t, "c"))
		if len(programs) != 3 {
			t.Fatalf("seed %d: %v", seed, codes)
		}
		power, sectors := r.Intn(2) == 0, pick(r, 4000, 4000, 34, 60, 100)
		c, e := cluster.New(sectors, 3, pick(r, 0, 1, 4), programs)
		if e != api.OK {
			t.Fatalf("cluster.New: %v", e)
		}
		for i := range 250 {
			if e := c.Do(anything(r, power)).Code; e == api.ErrDown || i%25 == 0 {
				if w := wrong(c, programs); w != "" {
					t.Fatalf("seed %d, step %d: %s", seed, i, w)
				}
			}
		}
		if power {
			does(t, c, cluster.Step{Kind: cluster.Crash}) // no fuse is left
		}
		n, ok := Drive(c, value.Text("done"), 5000)
		if w := wrong(c, programs); w != "" {
			t.Fatalf("seed %d, driven %d times: %s", seed, n, w)
		}
		if left := Left(c, programs); sectors == 4000 && (!ok || len(left) > 0) {
			t.Fatalf("seed %d, driven %d times, %v: left %v", seed, n, ok, left)
		}
		note(ends, c)
	}
	for _, end := range []string{"open", "run-completed", "run-failed", "run-terminated", "run-timed-out", "continued-as-new"} {
		if ends[end] < 20 {
			t.Errorf("%s: %d runs alone", end, ends[end])
		}
	}
}

// note counts how the runs of a cluster ended.
func note(ends map[string]int, c *cluster.Cluster) {
	for _, list := range c.Engine().Store().Histories() {
		if last := list[len(list)-1]; event.Closes(last) {
			ends[event.Name(last.Kind)]++
		} else {
			ends["open"]++
		}
	}
}

// P28.5: many workflows at once, more than may wait for workers, are driven to their ends, too.
func TestMany(t *testing.T) {
	c, e := cluster.New(4000, 8, 4, all(t))
	if e != api.OK {
		t.Fatalf("cluster.New: %v", e)
	}
	for i := range 200 {
		does(t, c, start(fmt.Sprint("w", i), []string{"pay", "sleep", "pay3", "zero"}[i%4]))
	}
	if n, ok := Drive(c, value.Of(1), 1000); !ok || len(Left(c, all(t))) != 0 {
		t.Errorf("%d, %v: left %v", n, ok, Left(c, all(t)))
	}
	wantLook(t, "many", c)
	wantSum(t, c, "[200 200 2000]")
}
