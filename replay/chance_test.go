package replay

import (
	"math/rand"
	"reflect"
	"strings"
	"testing"

	"foliot/api"
	"foliot/command"
	"foliot/event"
	"foliot/machine"
)

// told is what layer 15's words tell of a history.
type told struct {
	code    api.Errno
	seen    int
	found   int
	closed  bool
	pending string
}

// wanted: the commands of a program to which these events from outside were given, and which timers fired in them.
func wanted(t *testing.T, p api.Image, events []api.Event) ([]api.Command, map[int64]bool) {
	t.Helper()
	m, e := machine.New(p)
	if e != api.OK {
		t.Fatal(e)
	}
	fired := map[int64]bool{}
	for _, e := range events {
		if event.Outside(e) {
			m.Apply(e)
			fired[e.A] = fired[e.A] || e.Kind == api.TimerFired
		}
	}
	return m.Made(), fired
}

// tell: the words, by other means: at each event the program is run from the beginning on, and all commands are gone through with what was written of them so far.
func tell(t *testing.T, p api.Image, history []api.Event) told {
	t.Helper()
	gone := map[int]bool{} // the commands that were found, or passed over
	x := told{}
	for _, e := range history {
		before := history[:x.seen]
		ahead := x.seen > 0 && event.Closes(before[x.seen-1])
		switch {
		case event.Check(e) != api.OK:
			x.code = api.ErrKind
		case e.ID != len(before)+1:
			x.code = api.ErrChain
		case ahead:
			x.code = api.ErrClosed
		case len(before) == 0 && e.Kind != api.RunStarted, len(before) > 0 && e.Kind == api.RunStarted:
			x.code = api.ErrState
		case command.Made(e):
			made, fired := wanted(t, p, before)
			next := -1
			var passed []int
			for i, c := range made {
				switch {
				case gone[i] || next >= 0:
				case c.Kind == api.CancelTimer && fired[c.A]:
					passed = append(passed, i)
				default:
					next = i
				}
			}
			if next < 0 || !command.Fits(made[next], e) {
				x.code = api.ErrOther
				break
			}
			gone[next] = true
			for _, i := range passed {
				gone[i] = true
			}
		}
		if x.code != api.OK {
			break
		}
		x.seen++
	}
	x.found = len(gone)
	x.closed = x.seen > 0 && event.Closes(history[x.seen-1])
	if x.code == api.OK && !x.closed {
		made, fired := wanted(t, p, history)
		var left []api.Command
		for i, c := range made {
			if !gone[i] && !(c.Kind == api.CancelTimer && fired[c.A]) {
				left = append(left, c)
			}
		}
		x.pending = printed(left)
	}
	return x
}

// held: a Replayer against what the words tell of its history.
func held(t *testing.T, r *Replayer, p api.Image, code api.Errno, history []api.Event) told {
	t.Helper()
	x := tell(t, p, history)
	if got := (told{code, r.Seen(), r.Found(), r.Closed(), printed(r.Pending())}); got != x {
		t.Fatalf("%+v; not %+v, of %s", got, x, written(history))
	}
	made, _ := wanted(t, p, history[:x.seen])
	if printed(r.Made()) != printed(made) {
		t.Fatalf("it wants %s; not %s", printed(r.Made()), printed(made))
	}
	return x
}

// phrases is what programs do; each leaves the stack as it was.
func phrases() []string {
	return []string{
		"push 5; timer; store 0", "push 2; timer; store 1", "push 1; timer; store 2", "push 0; timer; pop",
		"push \"x\"; push 3; call \"pay\"; store 3", "input; push 0; call \"ship\"; store 4",
		"load 0; wait; store 6", "load 1; wait; pop",
		"load 3; join; store 7; store 6", "load 4; join; pop; pop",
		"load 0; cancel; store 7", "load 1; cancel; pop", "load 2; cancel; pop", "load 0; cancel; pop",
		"signal \"a\"; store 6", "signal \"b\"; pop", "poll \"a\"; store 7; store 6",
		"load 0; either \"a\"; store 7; store 6", "load 1; either \"b\"; pop; pop",
		"load 6; input; pack 2; store 6", "now; store 6", "asked; store 7",
		"load 7; unless next; nop", "jump next",
	}
}

// chance: a program by chance, that begins three timers first.
func chance(t *testing.T, rnd *rand.Rand, n int) api.Image {
	all := phrases()
	lines := "top:; " + strings.Join(all[:3], "; ")
	for i := range n {
		if i == n/2 {
			lines += "; next:"
		}
		lines += "; " + all[rnd.Intn(len(all))]
	}
	if n == 0 {
		lines += "; next:"
	}
	return program(t, lines+"; load 6; "+[]string{"return", "again", "pop; jump top", "pop; fail \"no\""}[rnd.Intn(4)])
}

// some: an event from outside, by chance.
func some(rnd *rand.Rand, at int64) api.Event {
	v := []api.Value{num(1), {}, text("x"), list(num(1), text("y"))}[rnd.Intn(4)]
	id := int64(1 + rnd.Intn(4))
	switch rnd.Intn(20) {
	case 0, 1, 2, 3, 4, 5, 6:
		return fires(at, id)
	case 7, 8, 9:
		return api.Event{Kind: api.ActivityCompleted, Time: at, A: id, Value: v}
	case 10:
		return api.Event{Kind: api.ActivityFailed, Time: at, A: id, Name: "no"}
	case 11:
		return of(api.ActivityTimedOut, at, id)
	case 12, 13, 14, 15, 16:
		return signal(at, "a", v)
	case 17, 18:
		return signal(at, "b", v)
	}
	if rnd.Intn(8) == 0 {
		return of([]int{api.RunTerminated, api.RunTimedOut}[rnd.Intn(2)], at, 0)
	}
	return of(api.CancelRequested, at, 0)
}

// served: a history by chance, as a server writes one: a task is started, and up to there a worker runs the program; what it wants then is written later, some of it or all, each once, in order, and nothing that comes too late.
func served(t *testing.T, rnd *rand.Rand, p api.Image, most int) []api.Event {
	t.Helper()
	l := history(started(3, []api.Value{num(4), text("in")}[rnd.Intn(2)]))
	canceled := map[int64]bool{}
	write := func(e api.Event) {
		if e.Kind == api.TimerFired && canceled[e.A] { // what was canceled doesn't fire any more
			return
		}
		canceled[e.A] = canceled[e.A] || e.Kind == api.TimerCanceled
		e.ID = len(l) + 1
		l = append(l, e)
	}
	at := int64(4)
	for len(l) < most && !event.Closes(l[len(l)-1]) {
		for range rnd.Intn(3) {
			write(some(rnd, at))
			at += int64(rnd.Intn(2))
			if event.Closes(l[len(l)-1]) {
				return l
			}
		}
		write(api.Event{Kind: api.TaskStarted, Time: at, A: 1, B: 1})
		r, e := Replay(p, l...)
		if e != api.OK {
			t.Fatalf("%v of %s", e, written(l))
		}
		pending := r.Pending()
		for range rnd.Intn(3) { // in the meantime
			write(some(rnd, at))
			if event.Closes(l[len(l)-1]) {
				return l
			}
		}
		if rnd.Intn(4) == 0 {
			write(api.Event{Kind: api.TaskFailed, Time: at, B: 1, Name: "why"})
			continue
		}
		write(api.Event{Kind: api.TaskCompleted, Time: at, A: int64(len(pending))})
		_, fired := wanted(t, p, l)
		for _, c := range pending[:rnd.Intn(len(pending)+1)] {
			if c.Kind != api.CancelTimer || !fired[c.A] {
				e := command.Event(c)
				if c.Kind == api.Again {
					e.B = 99
				}
				write(e)
			}
		}
	}
	return l
}

// P15.1 to P15.5: histories as they are written; each beginning of each is held against the words, and what is written is a beginning of what Settle tells.
func TestChance(t *testing.T) {
	tried, passed, closed, cut := 0, 0, 0, 0
	for seed := range 1000 {
		rnd := rand.New(rand.NewSource(int64(seed)))
		p := chance(t, rnd, rnd.Intn(9))
		if _, e := New(p); e != api.OK {
			continue
		}
		tried++
		l := served(t, rnd, p, 30)
		r, _ := New(p)
		for at := 0; at < len(l); {
			n := min(1+rnd.Intn(4), len(l)-at)
			code := r.Feed(l[at : at+n]...)
			at += n
			x := held(t, r, p, code, l[:at])
			whole, e := Replay(p, l[:at]...)
			if e != api.OK {
				t.Fatalf("%v of %s", e, written(l))
			}
			held(t, whole, p, e, l[:at])
			if string(whole.State()) != string(r.State()) {
				t.Fatal("a history in pieces comes to another State")
			}
			if rnd.Intn(3) == 0 {
				r.Take()
				r = r.Clone()
			}
			if x.closed {
				closed++
			}
		}
		settled, e := Settle(p, Outside(l...)...)
		if e != api.OK {
			t.Fatal(e)
		}
		made := Made(l...)
		if len(made) > len(settled) {
			t.Fatalf("more was written than it settles at: %s; %s", written(made), written(settled))
		}
		if len(made) < len(settled) {
			cut++
		}
		for i, e := range made {
			want := settled[i]
			if want.ID != 0 || want.B != 0 && want.Kind == api.ContinuedAsNew {
				t.Fatalf("the numbers of %s", event.Print(want))
			}
			want.ID = e.ID
			if want.Kind == api.ContinuedAsNew {
				want.B = e.B
			}
			if !event.Same(want, e) {
				t.Fatalf("%s was written; not %s", event.Print(e), event.Print(want))
			}
		}
		commands, fired := wanted(t, p, l)
		var left []string
		for _, c := range commands {
			if c.Kind != api.CancelTimer || !fired[c.A] {
				left = append(left, event.Print(command.Event(c)))
			} else {
				passed++
			}
		}
		if got := written(settled); got != strings.Join(left, ", ") {
			t.Fatalf("Settle: %s; not %s", got, strings.Join(left, ", "))
		}
	}
	if tried < 600 || passed < 100 || closed < 100 || cut < 100 {
		t.Errorf("%d programs, %d commands too late, %d runs closed, %d cut", tried, passed, closed, cut)
	}
}

// spoil: a history in which something is otherwise, by chance.
func spoil(rnd *rand.Rand, l []api.Event) []api.Event {
	l = append([]api.Event{}, l...)
	i := rnd.Intn(len(l))
	switch rnd.Intn(8) {
	case 0:
		l[i].Time += int64(rnd.Intn(3)) - 1
	case 1:
		l[i].A++
	case 2:
		l[i].ID += rnd.Intn(3) - 1
	case 3:
		l[i].Kind = rnd.Intn(24)
	case 4: // one is gone
		l = append(l[:i], l[i+1:]...)
		return from(1, l...)
	case 5: // one is there twice
		l = append(l[:i+1], l[i:]...)
		return from(1, append([]api.Event{}, l...)...)
	case 6: // two stand the other way round
		j := rnd.Intn(len(l))
		l[i], l[j] = l[j], l[i]
		return from(1, l...)
	case 7: // something more comes from outside
		l = append(l, some(rnd, 9))
		l[i], l[len(l)-1] = l[len(l)-1], l[i]
		return from(1, l...)
	}
	return l
}

// P15.2, P15.3, P15.4: histories in which something is wrong.
func TestChanceSpoiled(t *testing.T) {
	codes := map[api.Errno]int{}
	for seed := range 1800 {
		rnd := rand.New(rand.NewSource(int64(seed)))
		p := chance(t, rnd, rnd.Intn(7))
		if _, e := New(p); e != api.OK {
			continue
		}
		l := spoil(rnd, served(t, rnd, p, 14))
		if rnd.Intn(4) == 0 && len(l) > 0 {
			l = spoil(rnd, l)
		}
		r, _ := New(p)
		code := r.Feed(l...)
		held(t, r, p, code, l)
		codes[code]++
		if whole, e := Replay(p, l...); e != code || (whole == nil) != (e != api.OK) {
			t.Fatalf("Replay: %v, not %v", e, code)
		}
		step, _ := New(p)
		for i, e := range l {
			code := step.Feed(e)
			held(t, step, p, code, l[:i+1])
		}
		if !reflect.DeepEqual(step, r) {
			t.Fatal("a history event by event comes to something else")
		}
	}
	for _, code := range []api.Errno{api.OK, api.ErrKind, api.ErrChain, api.ErrClosed, api.ErrState, api.ErrOther} {
		if codes[code] < 20 {
			t.Errorf("%v came %d times", code, codes[code])
		}
	}
}

// P15.2 to P15.4: all short histories of a few events.
func TestAllShort(t *testing.T) {
	p := program(t, "push 5; timer; signal \"go\"; pop; push 6; timer; pop; cancel; return")
	alphabet := []api.Event{begun(2, 1, 7), signal(3, "go", num(0)), begun(3, 2, 9), canceled(3, 1), fires(4, 1), ends(3, api.RunCompleted, num(1)), of(api.TaskStarted, 5, 1)}
	count := 0
	var grow func(r *Replayer, l []api.Event)
	grow = func(r *Replayer, l []api.Event) {
		for _, e := range alphabet {
			e.ID = len(l) + 1
			next := append(append([]api.Event{}, l...), e)
			c := r.Clone()
			code := c.Feed(e)
			held(t, c, p, code, next)
			count++
			if code == api.OK && len(next) < 8 {
				grow(c, next)
			}
		}
	}
	first := history(started(2, num(0)))
	r, e := Replay(p, first...)
	if e != api.OK {
		t.Fatal(e)
	}
	grow(r, first)
	if count < 3000 {
		t.Errorf("%d histories", count)
	}
}

// P1: events that are any: each call ends, and none panics.
func TestAny(t *testing.T) {
	for seed := range 4000 {
		rnd := rand.New(rand.NewSource(int64(seed)))
		p := chance(t, rnd, rnd.Intn(5))
		var l []api.Event
		for i := range rnd.Intn(12) {
			e := some(rnd, int64(rnd.Intn(9)))
			e.ID = i + 1
			if i == 0 && rnd.Intn(4) > 0 {
				e.Kind, e.A = api.RunStarted, 0
			}
			switch rnd.Intn(9) {
			case 0:
				e.Kind = rnd.Intn(30) - 3
			case 1:
				e.A, e.B = int64(rnd.Uint64()), int64(rnd.Uint64())
			case 2:
				e.Time, e.ID = int64(rnd.Uint64()), int(rnd.Uint64())
			case 3:
				e.Value = api.Value{Kind: rnd.Intn(9) - 3, List: []api.Value{{Kind: 7}, num(1)}}
			}
			l = append(l, e)
		}
		settled, e := Settle(p, l...)
		again, same := Settle(p, l...)
		if e != same || written(settled) != written(again) || len(Outside(l...))+len(Made(l...)) > len(l) {
			t.Fatal("it hangs on something else")
		}
		if r, err := New(p); err == api.OK {
			code := r.Feed(l...)
			held(t, r, p, code, l)
		} else if err != e {
			t.Fatalf("New: %v, Settle: %v", err, e)
		}
	}
}
