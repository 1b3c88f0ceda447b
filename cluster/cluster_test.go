package cluster

import (
	"bytes"
	"fmt"
	"math"
	"reflect"
	"slices"
	"strings"
	"testing"

	"foliot/api"
	"foliot/asm"
	"foliot/disk"
	"foliot/engine"
	"foliot/event"
	"foliot/image"
	"foliot/policy"
	"foliot/value"
)

// The programs that the tests run. The log of a disk of 40 sectors has two segments: the sectors 34 to 39 are nobody's.
const (
	sleep  = "push 5; timer; wait; return"
	ears   = "start:; signal \"go\"; pop; jump start"
	either = "push 9; timer; either \"stop\"; pack 2; return"
	down   = "input; unless l1; input; push 1; sub; again; l1:; now; return"
	quick  = "input; return"
	spare  = 34
	small  = 40
)

// pay has an activity done up to three times, with waits of two, then six ticks, and nine ticks for each try.
func pay(t *testing.T) string {
	t.Helper()
	n, e := policy.Policy{Tries: 3, First: 2, Factor: 3, Limit: 9}.Number()
	want(t, "Number", e, api.OK)
	return "input; push " + value.Print(value.Of(n)) + "; call \"pay\"; join; pack 2; return"
}

// parsed: a program of lines with `;` between them; one with a colon is a label.
func parsed(t *testing.T, name, lines string) *image.Program {
	t.Helper()
	s := ""
	for _, line := range strings.Split(lines, ";") {
		if line = strings.TrimSpace(line); !strings.HasSuffix(line, ":") {
			line = "  " + line
		}
		s += line + "\n"
	}
	p, f := asm.Parse(s)
	if f.Code != api.OK {
		t.Fatalf("%+v in %q", f, lines)
	}
	x, e := image.New(name, p)
	want(t, "image.New", e, api.OK)
	return x
}

// all: the tests' programs.
func all(t *testing.T) engine.Programs {
	t.Helper()
	var list []*image.Program
	for _, x := range [][2]string{{"sleep", sleep}, {"ears", ears}, {"either", either}, {"down", down}, {"quick", quick}, {"pay", pay(t)}} {
		list = append(list, parsed(t, x[0], x[1]))
	}
	programs, codes := Load(list...)
	for _, e := range codes {
		want(t, "Load", e, api.OK)
	}
	return programs
}

func newCluster(t *testing.T, sectors, workers, room int, programs engine.Programs) *Cluster {
	t.Helper()
	c, e := New(sectors, workers, room, programs)
	want(t, "New", e, api.OK)
	return c
}

// fresh: a cluster of three workers, with much room.
func fresh(t *testing.T) *Cluster {
	t.Helper()
	return newCluster(t, 2000, 3, 4, all(t))
}

func want(t *testing.T, what string, got, want api.Errno) {
	t.Helper()
	if got != want {
		t.Fatalf("%s: %v, want %v", what, got, want)
	}
}

// does: a step is OK: what is answered.
func does(t *testing.T, c *Cluster, s Step) Reply {
	t.Helper()
	r := c.Do(s)
	if r.Code != api.OK {
		t.Fatalf("%+v: %v", s, r.Code)
	}
	return r
}

// doesAll: steps are OK, one behind the other.
func doesAll(t *testing.T, c *Cluster, list ...Step) {
	t.Helper()
	for _, s := range list {
		does(t, c, s)
	}
}

// refused: a step is answered by an error alone, and nothing is other than it was.
func refused(t *testing.T, c *Cluster, s Step, code api.Errno) {
	t.Helper()
	was := told(c)
	if r := c.Do(s); !reflect.DeepEqual(r, Reply{Code: code}) {
		t.Fatalf("%+v: %+v, want %v alone", s, r, code)
	}
	if other := differs(told(c), was); other != "" {
		t.Fatalf("%+v changed %s", s, other)
	}
}

// tale is all that a cluster tells.
type tale struct {
	now                    int64
	state                  string
	waiting, leases, hands any
	given                  uint64
	sectors                []string
}

func told(c *Cluster) tale {
	x := c.Engine()
	var hands []any
	for _, h := range c.hands {
		hands = append(hands, h.id, h.task, h.call, h.worker.Cached(), h.worker.Hits(), h.worker.Misses())
	}
	return tale{
		now: x.Now(), state: string(x.Store().State()), hands: hands, sectors: sure(c.Disk()),
		waiting: x.Match().Waiting(), leases: x.Match().Leases(), given: x.Match().Given(),
	}
}

// differs: in what two tales differ; empty: in nothing.
func differs(a, b tale) string {
	x, y := reflect.ValueOf(a), reflect.ValueOf(b)
	for i := range x.NumField() {
		if left, right := fmt.Sprintf("%+v", x.Field(i)), fmt.Sprintf("%+v", y.Field(i)); left != right {
			return fmt.Sprintf("%s: %.2000q, %.2000q", x.Type().Field(i).Name, left, right)
		}
	}
	return ""
}

// sure: what is durable, sector by sector.
func sure(d *disk.Disk) []string {
	var list []string
	for n := range d.Sectors() {
		b, _ := d.Sure(n)
		list = append(list, string(b))
	}
	return list
}

// history: the events of a run, as lines.
func history(c *Cluster, run int) []string {
	var list []string
	for _, e := range c.Engine().Store().All(run) {
		list = append(list, event.Print(e))
	}
	return list
}

func wantHistory(t *testing.T, c *Cluster, run int, lines ...string) {
	t.Helper()
	if got := history(c, run); !slices.Equal(got, lines) {
		t.Fatalf("the run %d:\n%s\nwant\n%s", run, strings.Join(got, "\n"), strings.Join(lines, "\n"))
	}
}

// wantEnd: a run's history ends so.
func wantEnd(t *testing.T, c *Cluster, run int, lines ...string) {
	t.Helper()
	got := history(c, run)
	if got = got[max(0, len(got)-len(lines)):]; !slices.Equal(got, lines) {
		t.Fatalf("the run %d ends:\n%s\nwant\n%s", run, strings.Join(got, "\n"), strings.Join(lines, "\n"))
	}
}

// The document's example of this layer, and its examples 9 and 10 of the whole.
func TestExample(t *testing.T) {
	for _, crash := range []bool{false, true} {
		c := newCluster(t, 100, 1, 2, all(t))
		doesAll(t, c, Step{Kind: Start, Name: "w", Text: "sleep"}, Step{Kind: Work, Worker: 1})
		if crash {
			does(t, c, Step{Kind: Crash})
		}
		doesAll(t, c, Step{Kind: Tick, N: 5}, Step{Kind: Work, Worker: 1})
		wantHistory(t, c, 1,
			`1 @0 run-started 0 0 "sleep" "" nil`, `2 @0 task-scheduled 1`, `3 @0 task-started 1 1`, `4 @0 task-completed 1 0`, `5 @0 timer-started 1 5`,
			`6 @5 timer-fired 1`, `7 @5 task-scheduled 1`, `8 @5 task-started 1 1`, `9 @5 task-completed 1 0`, `10 @5 run-completed 5`)
	}
}

// P26.1: the programs that may be run, and what is answered of each.
func TestLoad(t *testing.T) {
	p, codes := Load()
	if p == nil || len(p) != 0 || len(codes) != 0 {
		t.Errorf("Load of none: %v, %v", p, codes)
	}
	want(t, "Add", p.Add(parsed(t, "quick", quick)), api.OK)
	a, b, other := parsed(t, "a", quick), parsed(t, "b", sleep), parsed(t, "a", sleep)
	round, high := parsed(t, "round", "l1:; nop; jump l1"), parsed(t, "high", "pop; now; return")
	p, codes = Load(a, nil, b, other, round, high, a, parsed(t, "", quick))
	if !slices.Equal(codes, []api.Errno{api.OK, api.ErrMissing, api.OK, api.ErrTwice, api.ErrLoop, api.ErrStack, api.ErrTwice, api.OK}) {
		t.Errorf("Load: %v", codes)
	}
	if len(p) != 3 || p["a"] != a || p["b"] != b || p[""] == nil {
		t.Errorf("Load: %v", p)
	}
}

// P26.1: what a cluster may be made of.
func TestNew(t *testing.T) {
	for _, x := range []struct {
		sectors, workers, room int
		code                   api.Errno
	}{
		{100, math.MinInt, 2, api.ErrRange}, {100, -1, 2, api.ErrRange}, {100, 0, 2, api.ErrRange}, {100, 1, 2, api.OK},
		{100, MaxWorkers, 2, api.OK}, {100, MaxWorkers + 1, 2, api.ErrRange}, {100, math.MaxInt, 2, api.ErrRange},
		{math.MinInt, 1, 2, api.ErrRange}, {0, 1, 2, api.ErrRange}, {33, 1, 2, api.ErrRange}, {34, 1, 2, api.OK},
		{4096, 1, 2, api.OK}, {4097, 1, 2, api.ErrRange}, {math.MaxInt, 1, 2, api.ErrRange},
		{100, 3, math.MinInt, api.ErrRange}, {100, 3, -1, api.ErrRange}, {100, 3, 0, api.OK}, {100, 3, 16, api.OK}, {100, 3, 17, api.ErrRange},
	} {
		c, e := New(x.sectors, x.workers, x.room, all(t))
		want(t, "New", e, x.code)
		if e != api.OK {
			if c != nil {
				t.Errorf("New(%d, %d, %d): a cluster beside an error", x.sectors, x.workers, x.room)
			}
			continue
		}
		if c.Workers() != x.workers || c.Disk().Sectors() != x.sectors || c.Engine().Now() != 0 {
			t.Errorf("New(%d, %d, %d): %d workers, %d sectors", x.sectors, x.workers, x.room, c.Workers(), c.Disk().Sectors())
		}
		for i, h := range c.hands {
			if h.id != i+1 || h.worker.Room() != x.room {
				t.Errorf("the worker %d: %d, with the room %d", i+1, h.id, h.worker.Room())
			}
			refused(t, c, Step{Kind: Done, Worker: i + 1}, api.ErrMissing)
			refused(t, c, Step{Kind: End, Worker: i + 1}, api.ErrMissing)
		}
		if len(c.Engine().Store().Runs()) != 0 || c.Disk().Writes() != 0 || c.Engine().Store().Next() != 1 {
			t.Error("New: not empty")
		}
	}
}

// P26.1: without programs there is a server, too; the programs are those that were handed in (layer 25).
func TestPrograms(t *testing.T) {
	c := newCluster(t, 100, 1, 2, nil)
	refused(t, c, Step{Kind: Start, Name: "w", Text: "sleep"}, api.ErrMissing)
	does(t, c, Step{Kind: Crash})
	refused(t, c, Step{Kind: Start, Name: "w", Text: "sleep"}, api.ErrMissing)
	p := engine.Programs{}
	c = newCluster(t, 100, 1, 2, p)
	want(t, "Add", p.Add(parsed(t, "sleep", sleep)), api.OK)
	doesAll(t, c, Step{Kind: Start, Name: "w", Text: "sleep"}, Step{Kind: Crash}, Step{Kind: Work, Worker: 1})
}

// P26.2: behind a Crash the server is another one, at the tick that was, over what was durable; no worker has anything, and each remembers what it did.
func TestCrash(t *testing.T) {
	c := fresh(t)
	doesAll(t, c,
		Step{Kind: Start, Name: "a", Text: "pay", Value: value.Of(1)}, Step{Kind: Start, Name: "b", Text: "ears"}, Step{Kind: Work, Worker: 1},
		Step{Kind: Work, Worker: 2}, Step{Kind: Signal, Name: "b", Text: "go"}, Step{Kind: Take, Worker: 2}, Step{Kind: Call, Worker: 2}, Step{Kind: Tick, N: 7})
	x, d, was := c.Engine(), c.Disk(), told(c)
	if r := c.Do(Step{Kind: Crash, Worker: 2, Name: "b", Text: "go", N: 9, Keep: 5, Value: value.Of(1)}); !reflect.DeepEqual(r, Reply{}) {
		t.Fatalf("Crash: %+v", r)
	}
	if c.Engine() == x || c.Disk() != d || d.Down() || c.Workers() != 3 {
		t.Error("Crash: not opened anew")
	}
	is := told(c)
	if is.now != 7 || is.state != was.state || !slices.Equal(is.sectors, was.sectors) || is.given != 0 || len(c.Engine().Match().Leases()) != 0 {
		t.Errorf("Crash: %s", differs(is, was))
	}
	for i, h := range c.hands {
		if h.task.Token != 0 || h.call != 0 || h.worker.Room() != 4 {
			t.Errorf("the worker %d: %+v", i+1, h)
		}
		refused(t, c, Step{Kind: Done, Worker: i + 1}, api.ErrMissing)
		refused(t, c, Step{Kind: End, Worker: i + 1}, api.ErrMissing)
		refused(t, c, Step{Kind: Fault, Worker: i + 1}, api.ErrMissing)
	}
	if !slices.Equal(c.hands[0].worker.Cached(), []int{1}) || !slices.Equal(c.hands[1].worker.Cached(), []int{2}) {
		t.Error("Crash: the workers don't remember what they did")
	}
	// The activity waits for anybody; the task that was had is found by a Tick, and done by who remembers the run.
	doesAll(t, c, Step{Kind: Call, Worker: 3}, Step{Kind: Tick})
	wantEnd(t, c, 2, `8 @0 task-timed-out 1`, `9 @0 task-scheduled 2`)
	does(t, c, Step{Kind: Work, Worker: 2})
	if h := c.hands[1].worker; h.Hits() != 1 || h.Misses() != 1 {
		t.Errorf("%d hits, %d misses", h.Hits(), h.Misses())
	}
}

// filled: a sector of such bytes.
func filled(x byte) []byte { return bytes.Repeat([]byte{x}, disk.SectorSize) }

// dirty: sectors that are nobody's are written, and not durable.
func dirty(t *testing.T, d *disk.Disk, list ...int) {
	t.Helper()
	for _, n := range list {
		want(t, "Write", d.Write(n, filled(byte(n))), api.OK)
	}
}

// P26.2: of the sectors that aren't durable the first Keep are, the next one is torn at N, by a Crash and by a step by which the power goes.
func TestKeep(t *testing.T) {
	list := []int{34, 36, 37, 39}
	for _, s := range []Step{{Kind: Crash}, {Kind: Start, Name: "w", Text: "sleep"}} {
		for _, keep := range []int{math.MinInt, -1, 0, 1, 2, 3, 4, 5, math.MaxInt} {
			for _, n := range []int64{math.MinInt64, -1, 0, 1, 77, 127, 128, 129, math.MaxInt64} {
				c := newCluster(t, small, 1, 2, all(t))
				dirty(t, c.Disk(), 39, 36, 37, 34)
				s.Keep, s.N = keep, n
				if s.Kind == Crash {
					does(t, c, s)
				} else {
					does(t, c, Step{Kind: Fuse})
					s.N = max(n, 0)
					if r := c.Do(s); !reflect.DeepEqual(r, Reply{Code: api.ErrDown}) {
						t.Fatalf("the power goes: %+v", r)
					}
				}
				kept := min(max(keep, 0), len(list))
				for i, sector := range list {
					durable := 0
					if i < kept {
						durable = disk.SectorSize
					} else if i == kept {
						durable = int(min(max(n, 0), disk.SectorSize))
					}
					want := append(filled(byte(sector))[:durable:durable], make([]byte, disk.SectorSize-durable)...)
					if b, _ := c.Disk().Sure(sector); !bytes.Equal(b, want) {
						t.Fatalf("%+v: the sector %d: %v, want %d bytes", s, sector, b, durable)
					}
				}
				if len(c.Disk().Pending()) != 0 || c.Disk().Down() || len(c.Engine().Store().Runs()) != 0 {
					t.Fatalf("%+v: not as if a Crash stood behind it", s)
				}
				does(t, c, Step{Kind: Start, Name: "w", Text: "sleep"})
			}
		}
	}
}

// P26.2: so many writes and flushes more are done.
func TestFuse(t *testing.T) {
	for _, x := range []struct{ n, done int64 }{{math.MinInt64, 0}, {-1, 0}, {0, 0}, {1, 1}, {9, 9}, {1<<20 - 1, 1<<20 - 1}, {1 << 20, 1 << 20}, {1<<20 + 1, 1 << 20}, {math.MaxInt64, 1 << 20}} {
		c := newCluster(t, small, 1, 2, all(t))
		if r := c.Do(Step{Kind: Fuse, N: x.n}); !reflect.DeepEqual(r, Reply{}) {
			t.Fatalf("Fuse: %+v", r)
		}
		b := filled(1)
		for range x.done {
			if e := c.Disk().Write(spare, b); e != api.OK {
				t.Fatalf("Fuse(%d): %v", x.n, e)
			}
		}
		want(t, "Write", c.Disk().Write(spare, b), api.ErrDown)
	}
	c := newCluster(t, small, 1, 2, all(t))
	doesAll(t, c, Step{Kind: Fuse, N: 0}, Step{Kind: Crash}, Step{Kind: Start, Name: "w", Text: "sleep"})
	doesAll(t, c, Step{Kind: Fuse, N: 0}, Step{Kind: Fuse, N: 1 << 20}, Step{Kind: Start, Name: "v", Text: "sleep"})
	doesAll(t, c, Step{Kind: Fuse, N: 0}, Step{Kind: Describe, Name: "w"}, Step{Kind: Query, Name: "w"}, Step{Kind: Tick, N: 3}, Step{Kind: Drop, Worker: 1})
	refusedDown(t, c, Step{Kind: Take, Worker: 1})
	does(t, c, Step{Kind: Take, Worker: 1})
}

// refusedDown: the power goes by a step.
func refusedDown(t *testing.T, c *Cluster, s Step) {
	t.Helper()
	x := c.Engine()
	if r := c.Do(s); !reflect.DeepEqual(r, Reply{Code: api.ErrDown}) {
		t.Fatalf("%+v: %+v, want %v alone", s, r, api.ErrDown)
	}
	if c.Engine() == x || c.Disk().Down() {
		t.Fatalf("%+v: the server didn't come again", s)
	}
}

// P26.2: the power goes in the middle of a Tick: it is so many ticks later all the same, and the next Tick does what wasn't done.
func TestTickThatWas(t *testing.T) {
	begin := []Step{
		{Kind: Start, Name: "a", Text: "sleep"}, {Kind: Start, Name: "b", Text: "sleep"}, {Kind: Tick, N: 2},
		{Kind: Work, Worker: 1}, {Kind: Work, Worker: 1}, {Kind: Start, Name: "c", Text: "ears", N: 4},
	}
	whole := fresh(t)
	doesAll(t, whole, append(slices.Clone(begin), Step{Kind: Tick, N: 10})...)
	fuses := 0
	for ; ; fuses++ {
		c := fresh(t)
		doesAll(t, c, append(slices.Clone(begin), Step{Kind: Fuse, N: int64(fuses)})...)
		if r := c.Do(Step{Kind: Tick, N: 10}); r.Code == api.OK {
			break
		}
		if c.Engine().Now() != 12 {
			t.Fatalf("the power goes behind %d: the tick is %d", fuses, c.Engine().Now())
		}
		if r := does(t, c, Step{Kind: Tick}); r.N != 12 {
			t.Fatalf("Tick: %+v", r)
		}
		if !bytes.Equal(c.Engine().Store().State(), whole.Engine().Store().State()) {
			t.Fatalf("the power goes behind %d: another end", fuses)
		}
		// Once more, at that tick.
		if doesAll(t, c, Step{Kind: Crash}); c.Engine().Now() != 12 {
			t.Fatalf("Crash: the tick is %d", c.Engine().Now())
		}
	}
	if fuses < 6 {
		t.Errorf("the power went behind %d writes and flushes alone", fuses)
	}
}

// P26.2: if it is somebody else who made the server's tick another one, that is the tick that was, too.
func TestOwnTick(t *testing.T) {
	c := fresh(t)
	want(t, "Tick", c.Engine().Tick(7), api.OK)
	if does(t, c, Step{Kind: Crash}); c.Engine().Now() != 7 {
		t.Errorf("the tick is %d", c.Engine().Now())
	}
}

// P1: a disk that somebody else spoiled can't be opened; it can, if that is mended.
func TestSpoiled(t *testing.T) {
	c := fresh(t)
	doesAll(t, c, Step{Kind: Start, Name: "w", Text: "sleep"}, Step{Kind: Work, Worker: 1})
	want(t, "Spoil", c.Disk().Spoil(2, 20, 1), api.OK)
	for range 3 {
		if r := c.Do(Step{Kind: Crash}); r.Code == api.OK || !reflect.DeepEqual(r, Reply{Code: r.Code}) {
			t.Fatalf("Crash: %+v", r)
		}
		if r := c.Do(Step{Kind: Signal, Name: "w", Text: "go"}); !reflect.DeepEqual(r, Reply{Code: api.ErrDown}) {
			t.Fatalf("Signal: %+v", r)
		}
		c.Do(Step{Kind: Describe, Name: "w"})
		c.Do(Step{Kind: Work, Worker: 1})
	}
	want(t, "Spoil", c.Disk().Spoil(2, 20, 1), api.OK)
	doesAll(t, c, Step{Kind: Crash}, Step{Kind: Signal, Name: "w", Text: "go"})
}
