package machine

import (
	"math/rand"
	"strconv"
	"strings"
	"testing"

	"foliot/api"
	"foliot/event"
	"foliot/image"
	"foliot/value"
	"foliot/verify"
)

// teller is layer 14 by its words, by other means: a program that pulls its next event where it waits, from the beginning on.
type teller struct {
	p       api.Image
	events  []api.Event
	pulled  int
	tick    int64
	input   api.Value
	asked   bool
	signals []api.Event
	over    map[string]bool         // timers and activities that are begun and not taken
	ends    map[string][2]api.Value // of activities, the result and the outcome
	begun   map[string]int64        // how many
	stack   []api.Value
	made    []api.Command
	kind    int
	id      int64
	name    string
	trap    string
	steps   int
}

// stopped is what a teller panics with where it goes no further.
type stopped struct{}

func (x *teller) stop(kind int) {
	x.kind = kind
	if kind == Over {
		x.id, x.name = 0, ""
	}
	panic(stopped{})
}

// pull: the next event, or a stop where the program waits.
func (x *teller) pull(kind int, id int64, name string) {
	x.id, x.name = id, name
	if x.pulled == len(x.events) {
		x.stop(kind)
	}
	e := x.events[x.pulled]
	x.pulled++
	x.tick, x.steps = e.Time, 0
	thing := strconv.FormatInt(e.A, 10)
	finish := func(what string, result api.Value, outcome int64) {
		if over, ok := x.over[what+thing]; ok && !over {
			x.over[what+thing] = true
			x.ends[what+thing] = [2]api.Value{result, num(outcome)}
		}
	}
	switch e.Kind {
	case api.RunStarted:
		x.input = e.Value
	case api.TimerFired:
		finish("timer", api.Value{}, 0)
	case api.ActivityCompleted:
		finish("activity", e.Value, 1)
	case api.ActivityFailed:
		finish("activity", text(e.Name), 0)
	case api.ActivityTimedOut:
		finish("activity", api.Value{}, -1)
	case api.SignalReceived:
		x.signals = append(x.signals, e)
	case api.CancelRequested:
		x.asked = true
	default:
		x.stop(Over)
	}
}

func (x *teller) want(kind int, a, b int64, name string, v api.Value) {
	x.made = append(x.made, api.Command{Kind: kind, Time: x.tick, A: a, B: b, Name: name, Value: v})
	if kind >= api.Complete {
		x.stop(Over)
	}
}

func (x *teller) fall(word string) {
	x.trap = word
	x.want(api.Fail, 0, 0, "trap "+word, api.Value{})
}

func (x *teller) need(ok bool, word string) {
	if !ok {
		x.fall(word)
	}
}

func (x *teller) pop() api.Value {
	v := x.stack[len(x.stack)-1]
	x.stack = append([]api.Value{}, x.stack[:len(x.stack)-1]...)
	return v
}

func (x *teller) push(list ...api.Value) { x.stack = append(x.stack, list...) }

func flag(b bool) api.Value {
	if b {
		return num(1)
	}
	return num(0)
}

// begin: the number of the next timer or activity.
func (x *teller) begin(what string, b api.Value, most int64) int64 {
	x.need(b.Kind == api.Int && b.N >= 0 && b.N <= most, "range")
	x.need(len(x.over) < 64, "many")
	x.begun[what]++
	x.over[what+strconv.FormatInt(x.begun[what], 10)] = false
	return x.begun[what]
}

// known: the key of a timer or an activity that is begun and not taken.
func (x *teller) known(what string, b api.Value) string {
	key := what + strconv.FormatInt(b.N, 10)
	_, ok := x.over[key]
	x.need(ok && b.Kind == api.Int, "gone")
	return key
}

// first: where the first signal of a name is.
func (x *teller) first(name string) int {
	for i, e := range x.signals {
		if e.Name == name {
			return i
		}
	}
	return -1
}

func (x *teller) hear(name string) api.Value {
	i := x.first(name)
	v := x.signals[i].Value
	x.signals = append(append([]api.Event{}, x.signals[:i]...), x.signals[i+1:]...)
	return v
}

// tell goes through the program, up to where it stops.
func (x *teller) tell() {
	defer func() {
		if r := recover(); r != nil && r != (stopped{}) {
			panic(r)
		}
	}()
	x.over, x.ends, x.begun = map[string]bool{}, map[string][2]api.Value{}, map[string]int64{}
	places := make([]api.Value, x.p.Places)
	x.pull(Start, 0, "")
	for at := 0; ; {
		in := x.p.Code[at]
		at++
		switch in.Op {
		case image.Wait, image.Join, image.Signal, image.Either:
		default:
			x.steps++
		}
		switch in.Op {
		case image.Jump:
			at = in.A
		case image.Unless:
			if v := x.pop(); !value.True(v) {
				at = in.A
			}
		case image.Load:
			x.push(places[in.A])
		case image.Store:
			places[in.A] = x.pop()
		default:
			x.do(in)
		}
	}
}

func (x *teller) do(in api.Instr) {
	name := func() string { return x.p.Names[in.A] }
	made := func(v api.Value) {
		x.need(value.Check(v) == api.OK, "long")
		x.push(v)
	}
	two := func(kind int) (a, b api.Value) {
		b, a = x.pop(), x.pop()
		if kind > 0 {
			x.need(a.Kind == kind && b.Kind == kind, "type")
		}
		return a, b
	}
	switch in.Op {
	case image.Push:
		x.push(x.p.Consts[in.A])
	case image.Pop:
		x.pop()
	case image.Dup:
		b := x.pop()
		x.push(b, b)
	case image.Swap:
		a, b := two(0)
		x.push(b, a)
	case image.Add:
		a, b := two(api.Int)
		x.push(num(int64(uint64(a.N) + uint64(b.N))))
	case image.Sub:
		a, b := two(api.Int)
		x.push(num(int64(uint64(a.N) - uint64(b.N))))
	case image.Mul:
		a, b := two(api.Int)
		x.push(num(int64(uint64(a.N) * uint64(b.N))))
	case image.Same:
		a, b := two(0)
		x.push(flag(value.Print(a) == value.Print(b)))
	case image.Less:
		a, b := two(0)
		x.push(flag(value.Compare(a, b) < 0))
	case image.Not:
		x.push(flag(!value.True(x.pop())))
	case image.Input:
		x.push(x.input)
	case image.Now:
		x.push(num(x.tick))
	case image.Asked:
		x.push(flag(x.asked))
	case image.Return:
		x.want(api.Complete, 0, 0, "", x.pop())
	case image.Again:
		x.want(api.Again, 0, 0, "", x.pop())
	case image.Fail:
		x.want(api.Fail, 0, 0, name(), api.Value{})
	case image.Pack:
		v := list(append([]api.Value{}, x.stack[len(x.stack)-in.A:]...)...)
		for range in.A {
			x.pop()
		}
		made(v)
	case image.Item:
		a, b := two(0)
		x.need(a.Kind == api.List && b.Kind == api.Int, "type")
		v := api.Value{}
		for i := range a.List {
			if int64(i) == b.N {
				v = a.List[i]
			}
		}
		x.push(v)
	case image.Size:
		b := x.pop()
		x.need(b.Kind == api.List || b.Kind == api.Text, "type")
		x.push(num(int64(len(b.S) + len(b.List))))
	case image.Cat:
		a, b := two(0)
		x.need(a.Kind == b.Kind && a.Kind >= api.Text, "type")
		made(api.Value{Kind: a.Kind, S: a.S + b.S, List: append(append([]api.Value{}, a.List...), b.List...)})
	case image.Nop:
	default:
		x.live(in, name)
	}
}

// live: the instructions that have to do with what is outside.
func (x *teller) live(in api.Instr, name func() string) {
	waits := func() { x.steps++ } // it has what it waited for
	switch in.Op {
	case image.Timer:
		b := x.pop()
		id := x.begin("timer", b, 1<<63-1)
		x.want(api.StartTimer, id, b.N, "", api.Value{})
		x.push(num(id))
	case image.Call:
		b, a := x.pop(), x.pop()
		id := x.begin("activity", b, 1<<30)
		x.want(api.Schedule, id, b.N, name(), a)
		x.push(num(id))
	case image.Cancel:
		b := x.pop()
		key := x.known("timer", b)
		over := x.over[key]
		delete(x.over, key)
		if !over {
			x.want(api.CancelTimer, b.N, 0, "", api.Value{})
		}
		x.push(flag(!over))
	case image.Wait:
		x.steps++ // for a fall
		b := x.pop()
		key := x.known("timer", b)
		for x.steps--; !x.over[key]; {
			x.pull(ForTimer, b.N, "")
		}
		waits()
		delete(x.over, key)
		x.push(num(x.tick))
	case image.Join:
		x.steps++
		b := x.pop()
		key := x.known("activity", b)
		for x.steps--; !x.over[key]; {
			x.pull(ForActivity, b.N, "")
		}
		waits()
		delete(x.over, key)
		x.push(x.ends[key][0], x.ends[key][1])
	case image.Signal:
		for x.first(name()) < 0 {
			x.pull(ForSignal, 0, name())
		}
		waits()
		x.push(x.hear(name()))
	case image.Either:
		x.steps++
		b := x.pop()
		key := x.known("timer", b)
		for x.steps--; x.first(name()) < 0 && !x.over[key]; {
			x.pull(ForEither, b.N, name())
		}
		waits()
		if x.first(name()) >= 0 {
			x.push(x.hear(name()), num(1))
			return
		}
		delete(x.over, key)
		x.push(api.Value{}, num(0))
	case image.Poll:
		if x.first(name()) >= 0 {
			x.push(x.hear(name()), num(1))
			return
		}
		x.push(api.Value{}, num(0))
	}
}

// phrases is beginnings and ends of what programs do; each leaves the stack as it was.
func phrases() []string {
	return []string{
		"push 5; timer; store 0", "push 2; timer; store 1", "input; timer; store 2", "push 0; timer; pop",
		"push \"x\"; push 3; call \"pay\"; store 3", "input; push 0; call \"ship\"; store 4", "load 6; push 1; call \"pay\"; store 5",
		"load 0; wait; store 6", "load 1; wait; pop", "load 2; wait; store 6",
		"load 3; join; store 7; store 6", "load 4; join; pop; pop", "load 5; join; pack 2; store 6",
		"load 0; cancel; store 7", "load 1; cancel; pop", "load 2; cancel; pop",
		"signal \"a\"; store 6", "signal \"b\"; pop", "poll \"a\"; store 7; store 6", "poll \"b\"; pack 2; store 6",
		"load 0; either \"a\"; store 7; store 6", "load 1; either \"b\"; pop; pop", "load 2; either \"a\"; pack 2; store 6",
		"load 6; input; pack 2; store 6", "load 6; load 6; cat; store 6", "load 6; size; store 6", "load 6; push 0; item; store 6",
		"load 6; push 3; add; store 6", "load 6; load 7; mul; store 6", "input; push 1; sub; store 6", "now; store 6", "asked; store 7", "push 7; store 7", "push [1 2]; store 6", "push \"t\"; store 6",
		"load 6; load 7; less; store 7", "load 6; load 7; same; store 7", "load 7; not; store 7", "load 6; load 7; swap; pack 2; store 6", "load 6; dup; pack 2; store 6", "load 6" + strings.Repeat("; dup; pack 2", 5) + "; store 6", "nop",
		"push 1; store 0; push 1; store 1", "push 1; store 3", "push 2; store 4; push 1; store 5",
		"input; push 5; less; unless out", "load 7; unless next; nop", "asked; unless more; nop", "load 7; unless top", "jump top", "jump next",
	}
}

// chance: a program by chance, of so many phrases.
func chance(t *testing.T, rnd *rand.Rand, n int) api.Image {
	all := phrases()
	lines := "top:"
	for i := range n {
		switch i {
		case n / 2:
			lines += "; next:"
		case n * 3 / 4:
			lines += "; more:"
		}
		lines += "; " + all[rnd.Intn(len(all))]
		if rnd.Intn(3) == 0 { // one after which the other phrases have something to ask for
			lines += "; " + all[rnd.Intn(7)]
		}
	}
	if n < 2 {
		lines += "; more:"
	}
	lines += "; load 6; " + []string{"return", "again", "pop; jump top", "pop; fail \"no\""}[rnd.Intn(4)]
	if n > 1 && !strings.Contains(lines, "more:") {
		lines += "; more:"
	}
	return program(t, lines+"; out:; load 7; return")
}

// some: an event from outside, by chance.
func some(rnd *rand.Rand, at int64) api.Event {
	v := []api.Value{num(1), num(5), {}, text("x"), list(num(1), text("y")), num(0), text("")}[rnd.Intn(7)]
	id := int64(1 + rnd.Intn(3))
	switch rnd.Intn(18) {
	case 0, 1, 2, 3, 4:
		return fired(at, id)
	case 5, 6, 7:
		return done(at, id, v)
	case 8:
		return failed(at, id, "no")
	case 9:
		return late(at, id)
	case 10, 11, 12, 13:
		return signal(at, "a", v)
	case 14, 15:
		return signal(at, "b", v)
	case 16:
		return signal(at, "c", v)
	}
	if rnd.Intn(6) == 0 {
		return plain(at, []int{api.RunTerminated, api.RunTimedOut}[rnd.Intn(2)])
	}
	return plain(at, api.CancelRequested)
}

// P14.1 to P14.8: programs and events by chance, held against the words behind each event.
func TestChance(t *testing.T) {
	ends := map[string]int{}
	tried := 0
	for seed := range 12000 {
		rnd := rand.New(rand.NewSource(int64(seed)))
		p := chance(t, rnd, rnd.Intn(10))
		facts, fault := verify.Check(p)
		if fault.Code != api.OK {
			continue
		}
		tried++
		m := fresh(t, p)
		var taken []api.Command
		events := []api.Event{started(3, []api.Value{num(4), num(9), text("in"), {}, list(num(2))}[rnd.Intn(5)])}
		for at := int64(4); at < 40; at++ {
			last := events[len(events)-1]
			if err := m.Apply(last); err != api.OK {
				t.Fatalf("Apply(%s): %v", event.Print(last), err)
			}
			x := &teller{p: p, events: events}
			x.tell()
			wants(t, m, printed(x.made), x.kind, x.id, x.name)
			if m.Trap() != x.trap || m.Steps() != x.steps || m.Events() != len(events) || m.Steps() > facts.Span*(m.Events()+1) {
				t.Fatalf("the trap %q, not %q; %d steps, not %d", m.Trap(), x.trap, m.Steps(), x.steps)
			}
			if rnd.Intn(3) == 0 {
				taken = append(taken, m.Take()...)
				m = m.Clone()
			}
			if t.Failed() {
				t.Fatalf("seed %d", seed)
			}
			if x.kind == Over {
				break
			}
			events = append(events, some(rnd, at+int64(rnd.Intn(2))))
		}
		if got := printed(append(taken, m.Take()...)); got != printed(m.Made()) {
			t.Fatalf("taken were %s of %s", got, printed(m.Made()))
		}
		end := "waits " + strconv.Itoa(m.kind)
		if l := m.Made(); m.kind == Over && len(l) > 0 {
			end = strconv.Itoa(l[len(l)-1].Kind) + m.Trap()
		}
		ends[end]++
	}
	if tried < 5000 {
		t.Errorf("%d programs", tried)
	}
	for _, end := range []string{"4", "5", "6", "5type", "5range", "5gone", "5long", "waits 1", "waits 2", "waits 3", "waits 4", "waits 5"} {
		if ends[end] < 3 {
			t.Errorf("%q came %d times", end, ends[end])
		}
	}
}

// P14.8: programs under way of one image that have the same State do the same by the same events.
func TestStateSame(t *testing.T) {
	alphabet := []api.Event{fired(5, 1), fired(5, 2), signal(5, "a", num(1)), signal(5, "a", num(2)), signal(5, "b", num(1)), done(5, 1, num(1)), late(5, 1), plain(5, api.CancelRequested)}
	met := 0
	for seed := range 300 {
		rnd := rand.New(rand.NewSource(int64(seed)))
		p := chance(t, rnd, 3+rnd.Intn(4))
		first, e := New(p)
		if e != api.OK {
			continue
		}
		apply(t, first, started(5, num(4)))
		by := map[string]*Machine{}
		now := []*Machine{first}
		for range 3 {
			var next []*Machine
			for _, m := range now {
				for _, e := range alphabet {
					c := m.Clone()
					if c.Apply(e) != api.OK {
						continue
					}
					key := string(c.State())
					if was := by[key]; was != nil {
						met++
						same(t, was, c, alphabet)
					} else {
						by[key] = c
						next = append(next, c)
					}
				}
			}
			now = next
		}
	}
	if met < 1000 {
		t.Errorf("%d met", met)
	}
}

// same: do two machines the same by the same events?
func same(t *testing.T, a, b *Machine, alphabet []api.Event) {
	t.Helper()
	for _, e := range alphabet {
		c, d := a.Clone(), b.Clone()
		if one, two := c.Apply(e), d.Apply(e); one != two {
			t.Fatalf("%v and %v", one, two)
		}
		kind, id, name := c.Waits()
		wants(t, d, printed(c.Made()), kind, id, name)
		if string(c.State()) != string(d.State()) || c.Steps() != d.Steps() || c.Events() != d.Events() || c.Trap() != d.Trap() {
			t.Fatal("one State, and another one behind it")
		}
	}
}

// P1: programs and events that are any: each call ends, and none panics.
func TestAny(t *testing.T) {
	ring := make([]api.Value, 2)
	ring[0], ring[1] = list(ring...), list(ring...)
	ran := 0
	for seed := range 30000 {
		rnd := rand.New(rand.NewSource(int64(seed)))
		p := api.Image{Consts: []api.Value{num(1), text("a"), list(num(1))}, Names: []string{"a", "b"}, Places: 2}
		height := 0
		for range rnd.Intn(30) {
			in := api.Instr{Op: rnd.Intn(image.Ops)}
			if info, _ := image.Of(in.Op); rnd.Intn(8) > 0 && (info.In > height || info.Ends) {
				in.Op = image.Push
			}
			info, _ := image.Of(in.Op)
			height += info.Out - info.In
			switch info.Operand {
			case image.Const:
				in.A = rnd.Intn(3)
			case image.Name, image.Place:
				in.A = rnd.Intn(2)
			case image.Target:
				in.A = len(p.Code) + 1
			}
			p.Code = append(p.Code, in)
		}
		p.Code = append(p.Code, api.Instr{Op: image.Fail})
		m, e := New(p)
		if e != api.OK {
			continue
		}
		ran++
		m.Apply(started(1, num(3)))
		for range 12 {
			e := some(rnd, int64(rnd.Intn(9)))
			switch rnd.Intn(6) {
			case 0:
				e.Value = []api.Value{list(ring...), {Kind: 7}, {Kind: -1}}[rnd.Intn(3)]
			case 1:
				e.Kind = rnd.Intn(30) - 3
			case 2:
				e.Time, e.ID = int64(rnd.Uint64()), rnd.Intn(3)
			}
			m.Apply(e)
			m.Waits()
			m.State()
			m.Clone().Take()
			if l := m.Made(); len(l) < len(m.Take()) {
				t.Fatal("more was taken than made")
			}
		}
	}
	if ran < 1000 {
		t.Errorf("%d programs ran", ran)
	}
}
