package store

import (
	"fmt"
	"math/rand"
	"slices"
	"testing"

	"foliot/api"
	"foliot/disk"
)

// deed is something that is done to a store.
type deed struct {
	name string
	do   func(s *Store) api.Errno
}

func writing(name string, list ...Batch) deed {
	return deed{"Write of " + name, func(s *Store) api.Errno {
		_, e := s.Write(list...)
		return e
	}}
}

// deeds: what can be done to the stores of looks.
func deeds() []deed {
	return []deed{
		writing("a new run", Batch{begin("w", started(30))}),
		writing("events", Batch{add(1, signal(30), signal(30))}),
		writing("an end, and what follows", Batch{add(1, ended(30)), begin("w", started(30))}, Batch{forget(1)}),
		writing("some that may not be", Batch{{}}, Batch{begin("v", started(30))}, Batch{add(9)}, Batch{add(1, signal(40))}),
		writing("a long one", sized(1000)),
		writing("more than there is room for", sized(1700), sized(1700), sized(1700), sized(1700)),
		writing("none", Batch{}),
		{"Checkpoint", func(s *Store) api.Errno { return s.Checkpoint() }},
	}
}

// looks: stores of several kinds: a run alone, one behind a checkpoint, one whose log is nearly full, one gone round.
func looks(t *testing.T) []*look {
	t.Helper()
	var list []*look
	for i := range 4 {
		x := newLook(t, 2+3*16, Batch{begin("w", started(3))})
		switch i {
		case 1:
			x.want(t, Batch{add(1, signal(3), signal(4))})
			if e := x.s.Checkpoint(); e != api.OK {
				t.Fatalf("Checkpoint: %v", e)
			}
			x.want(t, Batch{begin("v", started(3), ended(4))})
		case 2:
			x.fill(t, 900)
		case 3:
			for range 3 {
				x.fill(t, 900)
				x.want(t, sized(500))
				x.want(t, Batch{add(1, signal(3)), add(x.m.next-1, ended(3)), forget(x.m.next - 1)})
			}
		}
		list = append(list, x)
	}
	return list
}

// fill writes what comes to nothing, until the log has less than that left.
func (x *look) fill(t testing.TB, left int) {
	t.Helper()
	for x.s.Left() >= left {
		x.want(t, Batch{begin("u", started(3), ended(3)), forget(x.m.next)})
	}
}

// lefts: of a disk, some of those that the power's going may leave of it, up again: of the sectors that weren't durable some are whole, one is torn.
func lefts(d *disk.Disk, r *rand.Rand, f func(*disk.Disk)) {
	pending := d.Pending()
	for some := range len(pending) + 3 {
		keep := slices.Clone(pending[:min(some, len(pending))])
		if some > len(pending) {
			keep = slices.DeleteFunc(keep, func(int) bool { return r.Intn(2) == 0 })
		}
		tears := []int{-1}
		if some < len(pending) {
			tears = append(tears, pending[some], pending[len(pending)-1])
		}
		for _, tear := range tears {
			for _, at := range []int{0, 13, 56, 112, r.Intn(129)} {
				c := d.Clone()
				c.Crash(keep, tear, at)
				c.Up()
				f(c)
			}
		}
	}
}

// wantDead: a store answers ErrDown to all that writes, and tells what it told.
func wantDead(t testing.TB, s *Store, m told) {
	t.Helper()
	batches, checkpoints, left := s.Batches(), s.Checkpoints(), s.Left()
	for _, list := range [][]Batch{{{begin("w", started(50))}}, {{{}}}, {{}}, nil, {{add(1, signal(50))}, {{}}}, {sized(2000), sized(2000), sized(2000)}} {
		codes, e := s.Write(list...)
		if e != api.ErrDown {
			t.Fatalf("Write(%+v): %v, %v", list, codes, e)
		}
	}
	if e := s.Checkpoint(); e != api.ErrDown {
		t.Fatalf("Checkpoint: %v", e)
	}
	if s.Batches() != batches || s.Checkpoints() != checkpoints || s.Left() != left {
		t.Fatal("what was in vain is counted")
	}
	wantStore(t, s, m)
}

// P19.3 and P19.5: the power goes at each write and flush of what is done, and leaves what it may: the store tells what was kept, or all that was to be, and goes on from there.
func TestPower(t *testing.T) {
	r := rand.New(rand.NewSource(19))
	seen := map[string]int{}
	for i, x := range looks(t) {
		old := string(x.m.state())
		for _, y := range deeds() {
			done := x.d.Clone()
			s := mustOpen(t, done)
			code := y.do(s)
			made := string(s.State())
			for fuse := range int(done.Writes() + done.Flushes()) {
				what := fmt.Sprintf("the store %d, %s, fuse %d", i, y.name, fuse)
				c := x.d.Clone()
				s := mustOpen(t, c)
				c.Fuse(fuse)
				if e := y.do(s); e != api.ErrDown {
					t.Fatalf("%s: %v", what, e)
				}
				wantDead(t, s, x.m)
				lefts(c, r, func(c *disk.Disk) {
					s := mustOpen(t, c)
					got := string(s.State())
					if got != old && got != made {
						t.Fatalf("%s: %x, want %x or %x", what, got, old, made)
					}
					if old != made {
						seen[fmt.Sprint(got == made, fuse > 0)]++
					}
					_, e := s.Write(Batch{add(s.Find("w"), signal(60))})
					if again := mustOpen(t, c); string(again.State()) != string(s.State()) || e == api.ErrDown {
						t.Fatalf("%s: it doesn't go on: %v", what, e)
					}
				})
				c.Crash(nil, -1, 0)
				c.Up()
				wantDead(t, s, x.m)
			}
			done.Crash(nil, -1, 0)
			done.Up()
			if got := string(mustOpen(t, done).State()); got != made {
				t.Fatalf("%s answered %v: %x, want %x", y.name, code, got, made)
			}
		}
	}
	if seen["true true"] < 10 || seen["false true"] < 10 || seen["true false"] != 0 {
		t.Errorf("seen: %v", seen)
	}
}

// P19.3: the power goes behind the checkpoint that is made ahead: that counts, and of the batches nothing is kept.
func TestDownBehindCheckpoint(t *testing.T) {
	x := newLook(t, 2+3*16, Batch{begin("w", started(3))})
	x.fill(t, 900)
	c := x.d.Clone()
	s := mustOpen(t, c)
	if e := s.Checkpoint(); e != api.OK {
		t.Fatalf("Checkpoint: %v", e)
	}
	steps := int(c.Writes() + c.Flushes())
	x.d.Fuse(steps)
	checkpoints := x.s.Checkpoints()
	codes, e := x.s.Write(Batch{begin("v", started(3))}, sized(700))
	if len(codes) != 0 || e != api.ErrDown || x.s.Checkpoints() != checkpoints+1 {
		t.Errorf("Write: %v, %v; Checkpoints: %d", codes, e, x.s.Checkpoints()-checkpoints)
	}
	wantDead(t, x.s, x.m)
	x.d.Up()
	wantStore(t, mustOpen(t, x.d), x.m)
}

// aBatch: one that may often be, of a store that tells this.
func aBatch(r *rand.Rand, m told) Batch {
	var b Batch
	run := func() int {
		if len(m.runs) == 0 || r.Intn(8) == 0 {
			return r.Intn(m.next+3) - 1
		}
		return m.runs[r.Intn(len(m.runs))].run
	}
	some := func() []api.Event {
		var list []api.Event
		for range r.Intn(4) {
			list = append(list, []api.Event{signal(r.Int63n(6)), signal(9), {Kind: api.TaskScheduled, Time: r.Int63n(3)}, {Kind: r.Intn(23), Time: 9}, ended(9)}[r.Intn(5)])
		}
		return list
	}
	for range r.Intn(4) {
		c := []Change{begin([]string{"w", "v", "", "a longer name"}[r.Intn(4)], append([]api.Event{started(r.Int63n(6))}, some()...)...), add(run(), some()...), add(run(), signal(9)), add(run(), ended(9)), forget(run())}[r.Intn(5)]
		switch r.Intn(20) {
		case 0:
			c.Kind = r.Intn(6) - 1
		case 1:
			c.Run = r.Intn(m.next + 2)
		case 2:
			c.Events = nil
		}
		b = append(b, c)
	}
	return b
}

// P19.1 to P19.6: steps by chance, with the power going now and then, against the document's words.
func TestSteps(t *testing.T) {
	r := rand.New(rand.NewSource(20))
	seen := map[api.Errno]int{}
	for range 40 {
		x := newLook(t, 2+(2+r.Intn(2))*16)
		for range 60 {
			var list []Batch
			for range r.Intn(4) {
				list = append(list, aBatch(r, x.m))
			}
			switch r.Intn(12) {
			case 0:
				log := logOf(t, x.d)
				want := log.Checkpoint(x.m.state())
				if e := x.s.Checkpoint(); e != want || x.s.Left() != log.Left() {
					t.Fatalf("Checkpoint: %v, want %v", e, want)
				}
				wantStore(t, x.s, x.m)
			case 1:
				list = append(list, sized(14+r.Intn(1500)))
			case 2:
				x.s = mustOpen(t, x.d)
				wantStore(t, x.s, x.m)
			case 3:
				x.fail(t, r, list)
				continue
			}
			for _, e := range x.write(t, list...).codes {
				seen[e]++
			}
		}
	}
	for _, e := range []api.Errno{api.OK, api.ErrFull, api.ErrMissing, api.ErrTwice, api.ErrShort, api.ErrState, api.ErrKind, api.ErrForm, api.ErrRange, api.ErrClosed} {
		if seen[e] < 5 {
			t.Errorf("%v was seen %d times", e, seen[e])
		}
	}
}

// fail writes batches, while the power may go.
func (x *look) fail(t *testing.T, r *rand.Rand, list []Batch) {
	t.Helper()
	want := x.m.write(t, logOf(t, x.d), list...)
	x.d.Fuse(r.Intn(12))
	codes, e := x.s.Write(list...)
	if e == api.ErrDown {
		wantDead(t, x.s, x.m)
		pending := x.d.Pending()
		x.d.Crash(pending[:r.Intn(len(pending)+1)], r.Intn(40), r.Intn(129))
		x.d.Up()
		x.s = mustOpen(t, x.d)
		if string(x.s.State()) == string(want.behind.state()) {
			x.m = want.behind
		}
	} else {
		if e != want.code || !slices.Equal(codes, want.codes) {
			t.Fatalf("Write(%+v): %v, %v, want %v, %v", list, codes, e, want.codes, want.code)
		}
		x.m = want.behind
		x.d.Fuse(-1)
	}
	wantStore(t, x.s, x.m)
}
