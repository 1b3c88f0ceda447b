package machine

import (
	"math"
	"reflect"
	"strconv"
	"strings"
	"testing"

	"foliot/api"
	"foliot/asm"
	"foliot/command"
	"foliot/event"
	"foliot/image"
	"foliot/value"
	"foliot/verify"
)

func num(n int64) api.Value { return api.Value{Kind: api.Int, N: n} }

func text(s string) api.Value { return api.Value{Kind: api.Text, S: s} }

func list(l ...api.Value) api.Value { return api.Value{Kind: api.List, List: l} }

// parse: the value of which s is the Print.
func parse(t *testing.T, s string) api.Value {
	t.Helper()
	v, e := value.Parse(s)
	if e != api.OK {
		t.Fatalf("%v in %q", e, s)
	}
	return v
}

// program: that of lines with `;` between them; one with a colon is a label.
func program(t *testing.T, lines string) api.Image {
	t.Helper()
	s := ""
	for _, line := range strings.Split(lines, ";") {
		if line = strings.TrimSpace(line); !strings.HasSuffix(line, ":") {
			line = "  " + line
		}
		s += line + "\n"
	}
	p, f := asm.Parse(s)
	if f.Code != api.OK {
		t.Fatalf("%+v in %q", f, lines)
	}
	return p
}

// fresh: a program that waits for its first event.
func fresh(t *testing.T, p api.Image) *Machine {
	t.Helper()
	m, e := New(p)
	if e != api.OK {
		t.Fatalf("New: %v of %v", e, p.Code)
	}
	return m
}

func started(at int64, v api.Value) api.Event {
	return api.Event{ID: 1, Time: at, Kind: api.RunStarted, Name: "flow", Value: v}
}

func fired(at, id int64) api.Event {
	return api.Event{ID: 2, Time: at, Kind: api.TimerFired, A: id}
}

func done(at, id int64, v api.Value) api.Event {
	return api.Event{ID: 2, Time: at, Kind: api.ActivityCompleted, A: id, Value: v}
}

func failed(at, id int64, name string) api.Event {
	return api.Event{ID: 2, Time: at, Kind: api.ActivityFailed, A: id, Name: name}
}

func late(at, id int64) api.Event {
	return api.Event{ID: 2, Time: at, Kind: api.ActivityTimedOut, A: id}
}

func signal(at int64, name string, v api.Value) api.Event {
	return api.Event{ID: 2, Time: at, Kind: api.SignalReceived, Name: name, Value: v}
}

func plain(at int64, kind int) api.Event { return api.Event{ID: 2, Time: at, Kind: kind} }

// apply: events one by one, none of which is refused.
func apply(t *testing.T, m *Machine, events ...api.Event) {
	t.Helper()
	for _, e := range events {
		if err := m.Apply(e); err != api.OK {
			t.Fatalf("Apply(%s): %v", event.Print(e), err)
		}
	}
}

// ran: a program to which these events were given.
func ran(t *testing.T, lines string, events ...api.Event) *Machine {
	t.Helper()
	m := fresh(t, program(t, lines))
	apply(t, m, events...)
	return m
}

// printed: commands, one behind the other.
func printed(cs []api.Command) string {
	var l []string
	for _, c := range cs {
		l = append(l, command.Print(c))
	}
	return strings.Join(l, ", ")
}

// wants: did a program want these commands, and does it wait for this?
func wants(t *testing.T, m *Machine, made string, kind int, id int64, name string) {
	t.Helper()
	if got := printed(m.Made()); got != made {
		t.Errorf("it wants %s; not %s", got, made)
	}
	if k, i, n := m.Waits(); k != kind || i != id || n != name {
		t.Errorf("it waits for %d, %d, %q; not for %d, %d, %q", k, i, n, kind, id, name)
	}
}

// isOver: is a run over, with these commands?
func isOver(t *testing.T, m *Machine, made string) {
	t.Helper()
	wants(t, m, made, Over, 0, "")
	if e := m.Apply(plain(0, api.CancelRequested)); e != api.ErrClosed {
		t.Errorf("Apply to one that is over: %v", e)
	}
}

// fell: did it go wrong, for a word?
func fell(t *testing.T, m *Machine, word string) {
	t.Helper()
	made := m.Made()
	if m.Trap() != word || len(made) == 0 {
		t.Fatalf("the trap is %q, not %q; it made %s", m.Trap(), word, printed(made))
	}
	last := made[len(made)-1]
	if kind, _, _ := m.Waits(); last.Kind != api.Fail || last.Name != "trap "+word || kind != Over {
		t.Errorf("it fell with %s, and waits for %d", command.Print(last), kind)
	}
}

// The limits and numbers stand as the document has them.
func TestLimits(t *testing.T) {
	if MaxOpen != 64 || MaxPolicy != 1073741824 {
		t.Error("limits")
	}
	if Start != 0 || ForTimer != 1 || ForActivity != 2 || ForSignal != 3 || ForEither != 4 || Over != 5 {
		t.Error("what it waits for")
	}
}

// The document's example.
func TestExample(t *testing.T) {
	m := ran(t, "input; timer; wait; return", started(10, num(5)))
	wants(t, m, "@10 start-timer 1 5", ForTimer, 1, "")
	apply(t, m, fired(15, 1))
	isOver(t, m, "@10 start-timer 1 5, @15 complete 15")
}

// P14.1: what isn't run.
func TestNewErrors(t *testing.T) {
	for _, x := range []struct {
		p    api.Image
		want api.Errno
	}{
		{api.Image{}, api.ErrShort},
		{api.Image{Code: []api.Instr{{Op: 33}}}, api.ErrOp},
		{api.Image{Code: []api.Instr{{Op: image.Jump, A: 1}}}, api.ErrRange},
		{api.Image{Code: make([]api.Instr, 513)}, api.ErrLong},
		{program(t, "pop"), api.ErrStack},
		{program(t, "nop"), api.ErrEnd},
		{program(t, "a:; jump a"), api.ErrLoop},
		{api.Image{Code: []api.Instr{{Op: image.Pop}}, Consts: []api.Value{{Kind: 9}}}, api.ErrKind},
	} {
		if m, e := New(x.p); m != nil || e != x.want {
			t.Errorf("New(%v): %v, want %v", x.p, e, x.want)
		}
	}
}

// P14.1: what a program is ahead of its first event.
func TestNew(t *testing.T) {
	m := fresh(t, program(t, `load 1; load 0; input; pack 3; return`))
	wants(t, m, "", Start, 0, "")
	if m.Events() != 0 || m.Steps() != 0 || m.Trap() != "" || len(m.Take()) != 0 {
		t.Error("something was there ahead of the first event")
	}
	apply(t, m, started(3, num(7)))
	isOver(t, m, "@3 complete [nil nil 7]")
	m = ran(t, `push 1; wait; return`, started(3, num(7)))
	fell(t, m, "gone")
	m = ran(t, `push 1; join; pop; return`, started(3, num(7)))
	fell(t, m, "gone")
	m = ran(t, `poll "a"; pack 2; asked; pack 2; return`, started(3, num(7)))
	isOver(t, m, "@3 complete [[nil 0] 0]")
}

// P14.2: what is refused, in which order; and that nothing is changed by it.
func TestApplyErrors(t *testing.T) {
	bad := started(1, num(1))
	bad.ID = 0
	long := signal(1, strings.Repeat("x", 65), num(1))
	deep := signal(1, "go", api.Value{Kind: 4})
	kinds := []api.Event{bad, long, deep, plain(-1, api.CancelRequested), plain(1, 0), plain(1, -1), plain(1, 22), plain(1, math.MinInt), fired(1, -1), {}}
	for kind := range 22 {
		if e := plain(1, kind); !event.Outside(e) {
			kinds = append(kinds, e)
		}
	}
	if len(kinds) != 10+1+12 {
		t.Errorf("%d events that are of a wrong kind", len(kinds))
	}
	outside := []api.Event{fired(1, 1), done(1, 1, num(1)), failed(1, 1, "x"), late(1, 1), signal(1, "go", num(1)), plain(1, api.CancelRequested), {ID: 2, Time: 1, Kind: api.RunTerminated, Name: "x"}, plain(1, api.RunTimedOut)}
	source := program(t, `input; timer; signal "go"; pop; wait; return`)
	refuse := func(m *Machine, want api.Errno, list []api.Event) {
		t.Helper()
		was := m.State()
		kind, id, name := m.Waits()
		for _, e := range list {
			if got := m.Apply(e); got != want {
				t.Errorf("Apply of the kind %d: %v, want %v", e.Kind, got, want)
			}
		}
		if k, i, n := m.Waits(); k != kind || i != id || n != name || string(was) != string(m.State()) {
			t.Error("a refused event changed something")
		}
	}
	m := fresh(t, source)
	refuse(m, api.ErrKind, kinds)
	refuse(m, api.ErrState, outside)
	apply(t, m, started(4, num(5)))
	refuse(m, api.ErrKind, kinds)
	refuse(m, api.ErrState, []api.Event{started(5, num(1)), started(4, num(5))})
	apply(t, m, signal(6, "go", num(1)), fired(9, 1))
	isOver(t, m, "@4 start-timer 1 5, @9 complete 9")
	refuse(m, api.ErrKind, kinds)
	refuse(m, api.ErrClosed, append(outside, started(5, num(1))))
	if m.Events() != 3 || m.Steps() != 2 {
		t.Errorf("%d events, %d steps", m.Events(), m.Steps())
	}
}

// P14.2: a run that is over from outside does nothing any more.
func TestEndedOutside(t *testing.T) {
	for _, kind := range []int{api.RunTerminated, api.RunTimedOut} {
		m := ran(t, `input; timer; wait; return`, started(4, num(5)), plain(6, kind))
		isOver(t, m, "@4 start-timer 1 5")
		if m.Events() != 2 || m.Steps() != 0 || m.Trap() != "" {
			t.Errorf("behind the kind %d: %d, %d, %q", kind, m.Events(), m.Steps(), m.Trap())
		}
	}
}

// P14.2: being asked to end is told by asked alone, and stays so.
func TestAsked(t *testing.T) {
	m := ran(t, `asked; store 0; signal "a"; pop; asked; store 1; signal "a"; pop; asked; load 1; load 0; pack 3; return`, started(1, num(0)))
	apply(t, m, plain(2, api.CancelRequested))
	wants(t, m, "", ForSignal, 0, "a")
	if m.Steps() != 0 || m.Events() != 2 {
		t.Errorf("%d steps, %d events", m.Steps(), m.Events())
	}
	apply(t, m, signal(3, "a", num(1)), plain(4, api.CancelRequested), signal(5, "a", num(1)))
	isOver(t, m, "@5 complete [1 1 0]")
}

// P14.3: what instructions make of the input 7 at the tick 9.
func TestInstructions(t *testing.T) {
	for _, x := range []struct{ lines, want string }{
		{"input", "7"}, {"now", "9"}, {"asked", "0"}, {"nop; input; nop", "7"},
		{`push [1 "a" nil]`, `[1 "a" nil]`},
		{"input; now; pop", "7"},
		{"input; now; dup; pack 3", "[7 9 9]"},
		{"input; now; asked; swap; pack 3", "[7 0 9]"},
		{"now; store 1; load 0; load 1; pack 2", "[nil 9]"},
		{"now; store 1; input; store 1; load 1; load 1; pack 2", "[7 7]"},
		{"push 5; push 5; same", "1"}, {"push 5; push 6; same", "0"}, {`push 0; push nil; same`, "0"}, {`push [1 "a"]; push [1 "a"]; same`, "1"},
		{"push 5; push 6; less", "1"}, {"push 6; push 5; less", "0"}, {"push 5; push 5; less", "0"}, {`push -1; push "a"; less`, "1"}, {`push "a"; push 9; less`, "0"},
		{`push []; push "z"; less`, "0"}, {`push "b"; push "ba"; less`, "1"}, {`push nil; push -5; less`, "1"}, {"push [1 2]; push [2]; less", "1"},
		{"push 0; not", "1"}, {"push 1; not", "0"}, {"push nil; not", "1"}, {`push ""; not`, "1"}, {`push "a"; not`, "0"}, {"push []; not", "1"}, {"push [0]; not", "0"},
		{"push 5; push 7; add", "12"}, {"push 5; push 7; sub", "-2"}, {"push 5; push 7; mul", "35"}, {"push -5; push 7; mul", "-35"},
		{"push 9223372036854775807; push 1; add", "-9223372036854775808"},
		{"push -9223372036854775808; push 1; sub", "9223372036854775807"},
		{"push -9223372036854775808; push -1; mul", "-9223372036854775808"},
		{"push 4611686018427387904; push 5; mul", "4611686018427387904"},
		{"pack 0", "[]"}, {"input; pack 1", "[7]"}, {"push [1]; push []; pack 2; pack 1", "[[[1] []]]"},
		{"push 1; push 2; push 3; pack 2; push 4; pack 3", "[1 [2 3] 4]"},
		{"push 1; push 2; pack 2; dup; push 3; swap; pack 3", "[[1 2] 3 [1 2]]"},
		{"push [4 5 6]; push 0; item", "4"}, {"push [4 5 6]; push 2; item", "6"}, {"push [4 5 6]; push 3; item", "nil"}, {"push [4 5 6]; push -1; item", "nil"},
		{"push []; push 0; item", "nil"}, {"push [4 [5]]; push 1; item", "[5]"}, {"push [4]; push 9223372036854775807; item", "nil"}, {"push [4]; push -9223372036854775808; item", "nil"},
		{"push [4 4294967296]; push 4294967296; item", "nil"},
		{"push [4 [5 6]]; size", "2"}, {"push []; size", "0"}, {`push ""; size`, "0"}, {`push "a\xff\x00"; size`, "3"},
		{`push "ab"; push "c"; cat`, `"abc"`}, {`push ""; push ""; cat`, `""`}, {"push [1 2]; push [[3]]; cat", "[1 2 [3]]"}, {"push []; push []; cat", "[]"},
		{"push 3; jump a; b:; push 4; pack 2; jump c; a:; jump b; c:; nop", "[3 4]"},
		{"push 1; push 0; unless a; not; a:; not", "0"}, {"push 1; push 2; unless a; not; a:; not", "1"}, {"push 1; push nil; unless a; not; a:; not", "0"},
		{`push 1; push ""; unless a; not; a:; not`, "0"}, {`push 1; push [0]; unless a; not; a:; not`, "1"}, {`push 1; push []; unless a; not; a:; not`, "0"},
	} {
		m := ran(t, x.lines+"; return", started(9, num(7)))
		isOver(t, m, "@9 complete "+x.want)
		if m.Trap() != "" {
			t.Errorf("%s: the trap %q", x.lines, m.Trap())
		}
		isOver(t, ran(t, x.lines+"; again", started(9, num(7))), "@9 again "+x.want)
	}
	isOver(t, ran(t, `input; fail "no"`, started(9, num(7))), `@9 fail "no"`)
	isOver(t, ran(t, `fail ""`, started(0, num(7))), `@0 fail ""`)
}

// P14.3: what goes wrong, by the kinds of the values.
func TestTypes(t *testing.T) {
	kinds := []string{"nil", "5", `"a"`, "[1]"}
	fits := func(op string, a, b int) bool {
		switch op {
		case "add", "sub", "mul":
			return a == api.Int && b == api.Int
		case "item":
			return a == api.List && b == api.Int
		case "cat":
			return a == b && (a == api.Text || a == api.List)
		case "size":
			return b == api.Text || b == api.List
		}
		return true
	}
	for _, op := range []string{"add", "sub", "mul", "item", "cat", "size", "same", "less", "not", "pack 2"} {
		for a, first := range kinds {
			for b, second := range kinds {
				m := ran(t, "push "+first+"; push "+second+"; "+op+"; return", started(9, num(7)))
				if fits(op, a, b) {
					if m.Trap() != "" || m.Made()[0].Kind != api.Complete {
						t.Errorf("%s of %s and %s: %s", op, first, second, printed(m.Made()))
					}
					continue
				}
				fell(t, m, "type")
				isOver(t, m, `@9 fail "trap type"`)
				if m.Steps() != 3 {
					t.Errorf("%s of %s and %s: %d steps", op, first, second, m.Steps())
				}
			}
		}
	}
}

// textual: a value of so many bytes (with layer 3's), a text or a list of two.
func textual(n int) api.Value {
	return list(text(strings.Repeat("a", 256)), text(strings.Repeat("b", n-264)))
}

// P14.3: what pack and cat make, and may not.
func TestTooLong(t *testing.T) {
	deep := strings.Repeat("[", 7) + strings.Repeat("]", 7)
	run := func(lines string, v api.Value) *Machine {
		return ran(t, lines+"; return", started(2, v))
	}
	for _, x := range []struct {
		lines string
		v     api.Value
	}{
		{"input; push \"a\"; cat", text(strings.Repeat("x", 255))},
		{"input; input; cat", text(strings.Repeat("x", 128))},
		{"input; pack 1", parse(t, deep)},
		{"input; input; cat", list(make([]api.Value, 32)...)},
		{"input; pack 1", textual(510)},
		{"input; push [nil]; cat", textual(511)},
		{"input; input; input; push [nil" + strings.Repeat(" nil", 61) + "]; pack 4", list(make([]api.Value, 63)...)}, // 256 parts
	} {
		m := run(x.lines, x.v)
		made := m.Made()
		if m.Trap() != "" || len(made) != 1 || value.Check(made[0].Value) != api.OK {
			t.Errorf("%s of %.40s: %q", x.lines, value.Print(x.v), m.Trap())
		}
	}
	for _, x := range []struct {
		lines string
		v     api.Value
	}{
		{"input; push \"ab\"; cat", text(strings.Repeat("x", 255))},
		{"push \"a\"; input; cat", text(strings.Repeat("x", 256))},
		{"input; pack 1; pack 1", parse(t, deep)},
		{"input; push [nil]; cat", list(make([]api.Value, 64)...)},
		{"input; pack 1", textual(511)},
		{"input; push [nil]; cat", textual(512)},
		{"input; input; input; input; pack 4", list(make([]api.Value, 63)...)},
		{"input" + strings.Repeat("; dup; pack 2", 6), list(make([]api.Value, 3)...)},
	} {
		m := run(x.lines, x.v)
		fell(t, m, "long")
		isOver(t, m, `@2 fail "trap long"`)
	}
}

// P14.4: timers: their numbers, and what they ask for.
func TestTimer(t *testing.T) {
	m := ran(t, `push 0; timer; push 9223372036854775807; timer; input; timer; pack 3; signal "a"; pop; return`, started(6, num(4)))
	wants(t, m, "@6 start-timer 1 0, @6 start-timer 2 9223372036854775807, @6 start-timer 3 4", ForSignal, 0, "a")
	apply(t, m, signal(7, "a", num(1)))
	isOver(t, m, "@6 start-timer 1 0, @6 start-timer 2 9223372036854775807, @6 start-timer 3 4, @7 complete [1 2 3]")
	for _, v := range []string{"-1", "-9223372036854775808", "nil", `"5"`, "[5]"} {
		m = ran(t, `push 1; timer; pop; input; timer; return`, started(6, parse(t, v)))
		fell(t, m, "range")
		isOver(t, m, `@6 start-timer 1 1, @6 fail "trap range"`)
	}
}

// P14.4: activities: their numbers, apart from the timers', and what they get.
func TestCall(t *testing.T) {
	m := ran(t, `push 3; timer; pop; input; push 0; call "pay"; push nil; push 1073741824; call ""; pack 2; return`, started(6, parse(t, `[1 "a"]`)))
	isOver(t, m, `@6 start-timer 1 3, @6 schedule 1 0 "pay" [1 "a"], @6 schedule 2 1073741824 "" nil, @6 complete [1 2]`)
	for _, v := range []string{"-1", "1073741825", "9223372036854775807", "-9223372036854775808", "nil", `"5"`, "[5]"} {
		m = ran(t, `push 9; input; call "pay"; return`, started(6, parse(t, v)))
		fell(t, m, "range")
		isOver(t, m, `@6 fail "trap range"`)
	}
}

// P14.4: timers and activities that are begun and not taken, at most so many, and one more.
func TestMany(t *testing.T) {
	timer, call := "push 5; timer; pop; ", `push 5; push 6; call "pay"; pop; `
	for _, x := range []struct{ timers, calls int }{{64, 0}, {0, 64}, {32, 32}, {63, 1}, {1, 63}} {
		all := strings.Repeat(timer, x.timers) + strings.Repeat(call, x.calls)
		m := ran(t, all+"input; return", started(2, num(1)))
		if m.Trap() != "" || len(m.Made()) != 65 {
			t.Errorf("%+v: %q, %d commands", x, m.Trap(), len(m.Made()))
		}
		for _, more := range []string{timer, call} {
			m = ran(t, all+more+"input; return", started(2, num(1)))
			fell(t, m, "many")
			if len(m.Made()) != 65 {
				t.Errorf("%+v, and one more: %d commands", x, len(m.Made()))
			}
		}
	}
	full := strings.Repeat(timer, 63) + call
	m := ran(t, full+"push -1; timer; return", started(2, num(1)))
	fell(t, m, "range") // ahead of there being many
	m = ran(t, full+`push 5; push -1; call "pay"; return`, started(2, num(1)))
	fell(t, m, "range")
	m = ran(t, full+"push 63; cancel; pop; "+call+"push 5; timer; return", started(2, num(1)))
	fell(t, m, "many")
	if got := printed(m.Made()[64:]); got != `@2 cancel-timer 63, @2 schedule 2 6 "pay" 5, @2 fail "trap many"` {
		t.Error(got)
	}
	m = ran(t, full+"push 1; join; pop; pop; push 7; timer; return", started(2, num(1)), fired(3, 1), done(4, 1, num(0)))
	if got := printed(m.Made()[64:]); got != "@4 start-timer 64 7, @4 complete 64" { // the first timer is over, but not taken
		t.Error(got)
	}
	m = ran(t, full+"push 1; wait; pop; "+timer+"push 1; timer; return", started(2, num(1)), fired(3, 1))
	fell(t, m, "many")
}

// P14.4: a timer that is canceled.
func TestCancel(t *testing.T) {
	begin := `push 5; timer; push 6; timer; pack 2; store 0; signal "a"; pop; `
	made := "@1 start-timer 1 5, @1 start-timer 2 6, "
	m := ran(t, begin+"push 2; cancel; return", started(1, num(0)), signal(3, "a", num(0)))
	isOver(t, m, made+"@3 cancel-timer 2, @3 complete 1")
	m = ran(t, begin+"push 2; cancel; return", started(1, num(0)), fired(2, 2), signal(3, "a", num(0)))
	isOver(t, m, made+"@3 complete 0")
	m = ran(t, begin+"push 2; cancel; return", started(1, num(0)), fired(2, 1), signal(3, "a", num(0)))
	isOver(t, m, made+"@3 cancel-timer 2, @3 complete 1")
	for _, again := range []string{"cancel", "wait", `either "b"; pop`} { // it is taken: there is none any more
		m = ran(t, begin+"push 2; cancel; pop; push 2; "+again+"; return", started(1, num(0)), signal(3, "a", num(0)))
		fell(t, m, "gone")
		isOver(t, m, made+`@3 cancel-timer 2, @3 fail "trap gone"`)
	}
	m = ran(t, begin+"push 2; cancel; pop; push 1; wait; return", started(1, num(0)), signal(3, "a", num(0)), fired(4, 2))
	wants(t, m, made+"@3 cancel-timer 2", ForTimer, 1, "")
	apply(t, m, fired(9, 1))
	isOver(t, m, made+"@3 cancel-timer 2, @9 complete 9")
}

// P14.4: what is no timer, or no activity, of that number.
func TestGone(t *testing.T) {
	begin := `push 5; timer; pop; push 6; timer; pop; push 1; push 1; call "pay"; pop; `
	for _, v := range []string{"0", "3", "-1", "nil", `"1"`, "[1]", "9223372036854775807", "4294967297"} {
		for _, op := range []string{"wait", "cancel", `either "a"; pop`, "join; pop"} {
			m := ran(t, begin+"input; "+op+"; return", started(1, parse(t, v)))
			fell(t, m, "gone")
		}
	}
	fell(t, ran(t, begin+"push 2; join; pop; return", started(1, num(0))), "gone") // 2 is a timer, and no activity
	fell(t, ran(t, `push 1; push 1; call "pay"; wait; return`, started(1, num(0))), "gone")
	fell(t, ran(t, `push 1; push 1; call "pay"; cancel; return`, started(1, num(0))), "gone")
	fell(t, ran(t, `push 1; timer; join; pop; return`, started(1, num(0))), "gone")
	fell(t, ran(t, begin+"push 1; wait; pop; push 1; wait; return", started(1, num(0)), fired(2, 1)), "gone")
	fell(t, ran(t, begin+"push 1; join; pop; pop; push 1; join; pop; return", started(1, num(0)), done(2, 1, num(1))), "gone")
	// a signal that waits doesn't make up for a timer that isn't there
	m := ran(t, `signal "go"; pop; push 7; either "a"; pop; return`, started(1, num(0)), signal(2, "a", num(1)), signal(3, "go", num(1)))
	fell(t, m, "gone")
}

// P14.5, P14.2: a timer that fires, ahead of being waited for or behind it; and what fires for nothing.
func TestWait(t *testing.T) {
	lines := `push 5; timer; push 6; timer; store 1; store 0; signal "a"; pop; load 1; wait; load 0; wait; pack 2; return`
	made := "@1 start-timer 1 5, @1 start-timer 2 6"
	m := ran(t, lines, started(1, num(0)), signal(2, "a", num(0)))
	wants(t, m, made, ForTimer, 2, "")
	apply(t, m, fired(3, 1), fired(4, 1), fired(5, 3), fired(5, 0), done(5, 2, num(1)), failed(5, 2, "x"), late(5, 2), signal(5, "a", num(1)), signal(5, "b", num(1)))
	wants(t, m, made, ForTimer, 2, "")
	if m.Events() != 11 || m.Steps() != 0 {
		t.Errorf("%d events, %d steps", m.Events(), m.Steps())
	}
	apply(t, m, fired(7, 2)) // the other one was over long since
	isOver(t, m, made+", @7 complete [7 7]")
	m = ran(t, lines, started(1, num(0)), fired(2, 2), fired(3, 1), signal(4, "a", num(0)))
	isOver(t, m, made+", @4 complete [4 4]")
	if m.Steps() != 8 {
		t.Errorf("%d steps", m.Steps())
	}
}

// P14.5, P14.2: an activity's three ends, ahead of being joined or behind it; the first end counts.
func TestJoin(t *testing.T) {
	lines := `input; push 3; call "pay"; signal "a"; pop; join; pack 2; return`
	made := `@1 schedule 1 3 "pay" "in"`
	ends := []struct {
		e    api.Event
		want string
	}{
		{done(4, 1, parse(t, `[1 nil]`)), "[[1 nil] 1]"},
		{done(4, 1, api.Value{}), "[nil 1]"},
		{failed(4, 1, "no \x00"), `["no \x00" 0]`},
		{failed(4, 1, ""), `["" 0]`},
		{failed(4, 1, strings.Repeat("x", 64)), `["` + strings.Repeat("x", 64) + `" 0]`},
		{late(4, 1), "[nil -1]"},
	}
	for _, x := range ends {
		m := ran(t, lines, started(1, text("in")), signal(2, "a", num(0)))
		wants(t, m, made, ForActivity, 1, "")
		apply(t, m, fired(3, 1), done(3, 2, num(9)), failed(3, 0, "x"), late(3, 2))
		wants(t, m, made, ForActivity, 1, "")
		apply(t, m, x.e)
		isOver(t, m, made+", @4 complete "+x.want)
		for _, y := range ends {
			m = ran(t, lines, started(1, text("in")), x.e, y.e, signal(5, "a", num(0)))
			isOver(t, m, made+", @5 complete "+x.want)
		}
	}
	// those that are over come in the order in which they are asked for
	m := ran(t, `push 1; push 0; call "a"; push 2; push 0; call "b"; store 0; store 1; load 1; join; load 0; join; pack 4; return`, started(1, num(0)), failed(2, 2, "two"))
	wants(t, m, `@1 schedule 1 0 "a" 1, @1 schedule 2 0 "b" 2`, ForActivity, 1, "")
	apply(t, m, late(3, 1))
	isOver(t, m, `@1 schedule 1 0 "a" 1, @1 schedule 2 0 "b" 2, @3 complete [nil -1 "two" 0]`)
}

// P14.5, P14.2: signals wait by their names, the first one first.
func TestSignal(t *testing.T) {
	lines := `signal "a"; signal "b"; signal "a"; pack 3; return`
	m := ran(t, lines, started(1, num(0)))
	wants(t, m, "", ForSignal, 0, "a")
	apply(t, m, signal(2, "b", num(1)), signal(3, "", num(2)), signal(3, "A", num(2)), signal(3, "ab", num(2)))
	wants(t, m, "", ForSignal, 0, "a")
	apply(t, m, signal(4, "a", parse(t, "[3]")))
	wants(t, m, "", ForSignal, 0, "a")
	if m.Steps() != 2 {
		t.Errorf("%d steps", m.Steps())
	}
	apply(t, m, signal(5, "a", text("four")))
	isOver(t, m, `@5 complete [[3] 1 "four"]`)
	m = ran(t, `input; timer; wait; pop; `+lines, started(1, num(4)), signal(2, "a", num(1)), signal(2, "a", num(2)), signal(3, "b", num(3)), signal(3, "a", num(4)), fired(5, 1))
	isOver(t, m, "@1 start-timer 1 4, @5 complete [1 3 2]")
}

// P14.5: names that stand twice in an image are one name.
func TestNamesTwice(t *testing.T) {
	p := api.Image{
		Code: []api.Instr{
			{Op: image.Signal, A: 2}, {Op: image.Poll, A: 0}, {Op: image.Push}, {Op: image.Timer}, {Op: image.Either, A: 2},
			{Op: image.Signal, A: 0}, {Op: image.Pack, A: 6}, {Op: image.Return},
		},
		Consts: []api.Value{num(5)},
		Names:  []string{"a", "b", "a"},
	}
	m := fresh(t, p)
	apply(t, m, started(1, num(0)))
	wants(t, m, "", ForSignal, 0, "a")
	apply(t, m, signal(2, "a", num(1)))
	wants(t, m, "@2 start-timer 1 5", ForEither, 1, "a")
	apply(t, m, signal(3, "a", num(2)))
	wants(t, m, "@2 start-timer 1 5", ForSignal, 0, "a")
	apply(t, m, signal(4, "a", num(3)))
	isOver(t, m, "@2 start-timer 1 5, @4 complete [1 nil 0 2 1 3]")
}

// P14.5: a signal, or a timer; the signal, if both are there; and then the timer is there still.
func TestEither(t *testing.T) {
	lines := `push 5; timer; store 0; signal "go"; pop; load 0; either "a"; pack 2; return`
	made := "@1 start-timer 1 5"
	m := ran(t, lines, started(1, num(0)), signal(2, "go", num(0)))
	wants(t, m, made, ForEither, 1, "a")
	apply(t, m, signal(3, "b", num(0)), signal(3, "go", num(0)), fired(3, 2), done(3, 1, num(0)))
	wants(t, m, made, ForEither, 1, "a")
	c := m.Clone()
	apply(t, m, signal(4, "a", text("s")))
	isOver(t, m, made+`, @4 complete ["s" 1]`)
	apply(t, c, fired(4, 1))
	isOver(t, c, made+", @4 complete [nil 0]")
	m = ran(t, lines, started(1, num(0)), fired(2, 1), signal(2, "a", text("s")), signal(3, "go", num(0)))
	isOver(t, m, made+`, @3 complete ["s" 1]`)
	m = ran(t, lines, started(1, num(0)), fired(2, 1), signal(3, "go", num(0)))
	isOver(t, m, made+", @3 complete [nil 0]")
	again := `push 5; timer; store 0; signal "go"; pop; load 0; either "a"; pop; pop; load 0; either "a"; pack 2; return`
	m = ran(t, again, started(1, num(0)), signal(2, "a", num(7)), signal(3, "go", num(0)))
	wants(t, m, made, ForEither, 1, "a")
	apply(t, m, fired(4, 1))
	isOver(t, m, made+", @4 complete [nil 0]")
	m = ran(t, again, started(1, num(0)), fired(2, 1), signal(3, "go", num(0)))
	fell(t, m, "gone") // the timer was taken by the first one
}

// P14.5: poll doesn't wait, and a signal that it leaves doesn't wait any more.
func TestPoll(t *testing.T) {
	lines := `input; timer; wait; pop; poll "a"; poll "a"; poll "b"; poll "a"; pack 8; return`
	m := ran(t, lines, started(1, num(4)), signal(2, "a", num(1)), signal(2, "a", api.Value{}), signal(3, "c", num(9)), fired(5, 1))
	isOver(t, m, "@1 start-timer 1 4, @5 complete [1 1 nil 1 nil 0 nil 0]")
}

// P14.6: what was wanted, all of it and what is new, each command with the tick of its event.
func TestTake(t *testing.T) {
	m := ran(t, `a:; input; timer; pop; signal "a"; push 2; call "pay"; pop; jump a`, started(3, num(4)))
	made := ""
	for i := int64(1); i < 5; i++ {
		at := strconv.FormatInt(2*i+1, 10)
		n := strconv.FormatInt(i, 10)
		more := "@" + at + " start-timer " + n + " 4"
		if i > 1 {
			before := strconv.FormatInt(i-1, 10)
			more = "@" + at + " schedule " + before + ` 2 "pay" ` + at + ", " + more
			made += ", "
		}
		made += more
		if i == 3 { // what isn't taken is there next time
			apply(t, m, plain(2*i+2, api.CancelRequested), signal(2*i+3, "a", num(2*i+3)))
			continue
		}
		if i == 4 {
			more = `@7 schedule 2 2 "pay" 7, @7 start-timer 3 4, ` + more
		}
		if got := printed(m.Take()); got != more {
			t.Errorf("Take: %s; not %s", got, more)
		}
		if got := m.Take(); len(got) != 0 {
			t.Errorf("Take again: %s", printed(got))
		}
		wants(t, m, made, ForSignal, 0, "a")
		apply(t, m, signal(2*i+3, "a", num(2*i+3)))
	}
	if m.Events() != 6 {
		t.Errorf("%d events", m.Events())
	}
}

// P14.6: Steps of the last event alone, and Events; of what waits nothing is done yet.
func TestSteps(t *testing.T) {
	m := ran(t, `a:; signal "a"; pop; nop; jump a`, started(1, num(0)))
	for i, x := range []struct {
		e     api.Event
		steps int
	}{
		{signal(2, "a", num(0)), 4}, {signal(2, "b", num(0)), 0}, {plain(3, api.CancelRequested), 0}, {signal(4, "a", num(0)), 4}, {plain(5, api.RunTerminated), 0},
	} {
		apply(t, m, x.e)
		if m.Steps() != x.steps || m.Events() != i+2 {
			t.Errorf("behind %s: %d steps, %d events", event.Print(x.e), m.Steps(), m.Events())
		}
	}
	for _, x := range []struct {
		lines string
		steps int
	}{{`signal "a"; return`, 0}, {"nop; input; timer; wait; return", 3}, {"nop; nop; input; return", 4}, {"input; nop; push nil; add; return", 4}, {`fail "x"`, 1}, {"jump a; b:; return; a:; input; dup; unless b; jump b", 6}} {
		if m := ran(t, x.lines, started(1, num(1))); m.Steps() != x.steps || m.Events() != 1 {
			t.Errorf("%s: %d steps, %d events", x.lines, m.Steps(), m.Events())
		}
	}
}

// P14.7: signals that wait are all taken by one event.
func TestStepsMost(t *testing.T) {
	p := program(t, `push 5; timer; wait; pop; a:; signal "a"; pop; jump a`)
	facts, _ := verify.Check(p)
	m := fresh(t, p)
	apply(t, m, started(1, num(0)))
	for range 20000 {
		apply(t, m, signal(2, "a", list(num(1), text("x"))))
	}
	apply(t, m, fired(3, 1))
	if m.Steps() != 2+3*20000 || m.Events() != 20002 || m.Steps() > facts.Span*(m.Events()+1) {
		t.Errorf("%d steps, %d events, the span is %d", m.Steps(), m.Events(), facts.Span)
	}
	wants(t, m, "@1 start-timer 1 5", ForSignal, 0, "a")
}

// P14.8: a clone goes its own way, and so does what was cloned.
func TestClone(t *testing.T) {
	lines := `input; timer; store 0; push [1]; push [2]; input; push 3; call "pay"; signal "a"; pack 4; store 1; load 0; wait; load 1; pack 2; asked; pack 2; return`
	m := ran(t, lines, started(1, num(4)), signal(2, "b", num(1)))
	m.Take()
	was := m.State()
	c := m.Clone()
	if string(c.State()) != string(was) || len(c.Take()) != 0 || printed(c.Made()) != printed(m.Made()) || c.Events() != 2 || c.Steps() != m.Steps() {
		t.Error("a clone is otherwise")
	}
	apply(t, c, plain(3, api.CancelRequested), fired(4, 1), signal(5, "a", parse(t, "[7]")))
	if string(m.State()) != string(was) {
		t.Error("what a clone was given changed the other one")
	}
	isOver(t, c, `@1 start-timer 1 4, @1 schedule 1 3 "pay" 4, @5 complete [[5 [[1] [2] 1 [7]]] 1]`)
	apply(t, m, signal(6, "a", num(8)), fired(7, 1))
	isOver(t, m, `@1 start-timer 1 4, @1 schedule 1 3 "pay" 4, @7 complete [[7 [[1] [2] 1 8]] 0]`)
	if got := printed(m.Take()); got != "@7 complete [[7 [[1] [2] 1 8]] 0]" {
		t.Error(got)
	}
	n := fresh(t, program(t, lines))
	d := n.Clone()
	apply(t, n, started(1, num(4)))
	e := n.Clone()
	if len(e.Take()) != 2 || len(n.Take()) != 2 || len(e.Take()) != 0 {
		t.Error("a clone has other commands to be taken")
	}
	wants(t, d, "", Start, 0, "")
	x := c.Clone()
	isOver(t, x, printed(c.Made()))
	y := ran(t, "input; size; return", started(1, num(1))).Clone()
	fell(t, y, "type")
}

// P14.8: State tells the same of the same, whoever takes commands or asks.
func TestState(t *testing.T) {
	p := program(t, `input; timer; store 0; a:; signal "a"; poll "b"; pop; pop; load 0; either "c"; pop; pack 2; pop; jump a`)
	events := []api.Event{started(1, num(4)), signal(2, "b", text("x")), signal(2, "b", text("y")), fired(3, 1), plain(3, api.CancelRequested), signal(4, "a", num(1)), signal(5, "c", num(2)), signal(6, "z", num(2)), plain(7, api.RunTimedOut)}
	one, two := fresh(t, p), fresh(t, p)
	seen := map[string]bool{string(one.State()): true}
	for _, e := range events {
		apply(t, one, e)
		apply(t, two, e)
		was := string(one.State())
		one.Take()
		one.Made()
		one.Waits()
		one.Apply(api.Event{})
		if string(one.State()) != was || string(two.State()) != was || string(one.Clone().State()) != was {
			t.Errorf("State behind %s is otherwise", event.Print(e))
		}
		if seen[was] {
			t.Errorf("State behind %s is that ahead of it", event.Print(e))
		}
		seen[was] = true
		one = one.Clone()
	}
}

// P14.8: what may make a program do otherwise makes its State another.
func TestStateDiffers(t *testing.T) {
	lines := `push 5; timer; push 5; timer; push 1; push 1; call "pay"; push 1; push 1; call "pay"; pack 4; store 0; signal "go"; pop; `
	ends := []string{"input; return", "asked; return", "now; return", `poll "a"; pop; return`, `poll "a"; pop; poll "a"; pop; pack 2; return`, "push 1; cancel; return", "push 2; cancel; return", "push 1; join; pack 2; return", "push 2; join; pack 2; return"}
	starts := [][]api.Event{
		{started(1, num(0))}, {started(1, num(1))},
		{plain(2, api.CancelRequested)}, {plain(3, api.CancelRequested)},
		{signal(2, "a", num(1))}, {signal(2, "a", num(2))}, {signal(2, "b", num(1))}, {signal(2, "a", num(1)), signal(2, "a", num(2))}, {signal(2, "a", num(2)), signal(2, "a", num(1))},
		{fired(2, 1)}, {fired(2, 2)}, {fired(2, 1), fired(2, 2)},
		{done(2, 1, num(1))}, {done(2, 1, num(0))}, {done(2, 2, num(1))}, {failed(2, 1, "x")}, {failed(2, 1, "")}, {late(2, 1)}, {done(2, 1, api.Value{})}, {done(2, 1, text(""))}, {late(2, 1), done(2, 1, num(1))},
	}
	var all [][]api.Event
	for i, s := range starts {
		if i >= 2 {
			s = append([]api.Event{started(1, num(0))}, s...)
		}
		all = append(all, s)
	}
	differing := 0
	for i, x := range all {
		for j, y := range all[:i] {
			differ := false
			for _, end := range ends {
				a, b := ran(t, lines+end, x...), ran(t, lines+end, y...)
				same := string(a.State()) == string(b.State())
				apply(t, a, signal(9, "go", num(0)))
				apply(t, b, signal(9, "go", num(0)))
				if printed(a.Made()) != printed(b.Made()) {
					differ = true
					if same {
						t.Errorf("%d and %d: one State, and other commands", i, j)
					}
				}
			}
			if differ {
				differing++
			}
		}
	}
	if differing < 150 {
		t.Errorf("%d pairs want other commands", differing)
	}
}

// P14.8: what is kept of what came tells in State, if commands were made of it, or may be.
func TestStateTells(t *testing.T) {
	a1, a2 := signal(2, "a", num(1)), signal(2, "a", num(2))
	for _, x := range []struct {
		lines    string
		one, two []api.Event
	}{
		{`signal "a"; signal "b"; pop; return`, []api.Event{a1}, []api.Event{a2}},                                                                                                        // the stack
		{`signal "a"; store 0; signal "b"; pop; load 0; return`, []api.Event{a1}, []api.Event{a2}},                                                                                       // a place
		{`signal "a"; timer; pop; signal "b"; return`, []api.Event{a1}, []api.Event{a2}},                                                                                                 // a command's B
		{`push 1; timer; push 1; timer; signal "a"; cancel; pop; push nil; signal "b"; return`, []api.Event{a1}, []api.Event{a2}},                                                        // its A
		{`signal "a"; push 1; call "x"; pop; signal "b"; return`, []api.Event{a1}, []api.Event{a2}},                                                                                      // its Value
		{`signal "a"; unless e; push 1; push 1; call "x"; jump f; e:; push 1; push 1; call "y"; nop; f:; pop; signal "b"; return`, []api.Event{a1}, []api.Event{signal(2, "a", num(0))}}, // its Name
		{`push 1; timer; push 1; timer; pack 2; store 0; signal "a"; dup; cancel; pop; push 3; swap; sub; cancel; pop; signal "b"; return`, []api.Event{a1}, []api.Event{a2}},            // the A of two
		{`signal "a"; push 1; less; unless e; push nil; return; e:; push nil; again`, []api.Event{a1}, []api.Event{signal(2, "a", num(0))}},                                              // its Kind
		{`signal "a"; timer; pop; signal "b"; return`, []api.Event{a1, plain(9, api.CancelRequested)}, []api.Event{signal(3, "a", num(1)), plain(9, api.CancelRequested)}},               // its Time
		{`signal "a"; signal "b"; pack 2; return`, nil, []api.Event{plain(1, api.RunTimedOut)}},
		{`signal "a"; pop; signal "a"; return`, nil, []api.Event{a1}},
	} {
		one, two := ran(t, x.lines, append([]api.Event{started(1, num(0))}, x.one...)...), ran(t, x.lines, append([]api.Event{started(1, num(0))}, x.two...)...)
		if string(one.State()) == string(two.State()) {
			t.Errorf("%s: one State", x.lines)
		}
	}
}

// P14.8: what comes to a clone doesn't come to stand in the other one's memory, however much room that has.
func TestCloneRoom(t *testing.T) {
	lines := `push 9; timer; wait; pop; a:; signal "a"; push 1; call "x"; pop; jump a`
	for n := range 9 {
		m := ran(t, lines, started(1, num(0)))
		for range n {
			apply(t, m, signal(2, "a", num(0)))
		}
		c := m.Clone()
		apply(t, m, signal(2, "a", num(1)))
		apply(t, c, signal(2, "a", num(2)))
		apply(t, m, fired(3, 1))
		apply(t, c, fired(3, 1))
		d := m.Clone()
		apply(t, m, signal(4, "a", num(3)))
		apply(t, d, signal(4, "a", num(4)))
		for _, x := range []struct {
			m    *Machine
			want string
		}{{m, "1 3"}, {c, "2"}, {d, "1 4"}} {
			got := ""
			for _, made := range x.m.Made()[1+n:] {
				got += " " + value.Print(made.Value)
			}
			if got != " "+x.want {
				t.Errorf("behind %d signals:%s, not %s", n, got, x.want)
			}
		}
	}
}

// P2: what is handed in is neither kept nor changed, and what is answered is new memory.
func TestMemory(t *testing.T) {
	p := program(t, `push [1 [2]]; input; signal "a"; push 1; push 0; call "pay"; join; pop; pack 4; dup; push 3; call "pay"; pop; return`)
	was := image.Clone(p)
	m := fresh(t, p)
	p.Consts[0].List[0], p.Consts[0].List[1].List[0] = num(99), num(99)
	p.Names[0], p.Names[1] = "z", "z"
	p.Code[0] = api.Instr{Op: image.Pop}
	spare := []api.Value{num(1), list(num(2)), num(3)}
	for _, e := range []api.Event{started(1, list(spare[:2]...)), signal(2, "a", list(spare[:2]...)), done(3, 1, list(spare[:2]...))} {
		in := e
		in.Value = value.Clone(e.Value)
		apply(t, m, in)
		if !event.Same(in, e) {
			t.Error("Apply changed its event")
		}
		scribble(in.Value.List)
	}
	made := `@2 schedule 1 0 "pay" 1, @3 schedule 2 3 "pay" [[1 [2]] [1 [2]] [1 [2]] [1 [2]]], @3 complete [[1 [2]] [1 [2]] [1 [2]] [1 [2]]]`
	isOver(t, m, made)
	c := m.Clone()
	state := string(m.State())
	for _, take := range []func() []api.Command{m.Made, m.Take, c.Made, c.Take} {
		l := take()
		scribble(l[1].Value.List[0].List)
		if value.Print(l[1].Value) == value.Print(l[2].Value) {
			t.Error("two lists of one answer share memory")
		}
		for i := range l {
			scribble(l[i].Value.List)
			l[i] = api.Command{}
		}
		_ = append(l[:0], make([]api.Command, len(l))...)
	}
	b := m.State()
	clear(b[:cap(b)])
	isOver(t, m, made)
	isOver(t, c, made)
	if string(m.State()) != state || string(c.State()) != state {
		t.Error("what was answered is kept")
	}
	m = fresh(t, was)
	apply(t, m, started(1, num(1)))
	if !reflect.DeepEqual(was, program(t, `push [1 [2]]; input; signal "a"; push 1; push 0; call "pay"; join; pop; pack 4; dup; push 3; call "pay"; pop; return`)) {
		t.Error("New changed its program")
	}
}

// scribble changes all memory that a list has, its spare room too.
func scribble(l []api.Value) {
	all := l[:cap(l)]
	for i := range all {
		scribble(all[i].List)
		all[i] = num(99)
	}
}

// P14.3: lists that were packed stay what they were, whatever comes onto the stack behind them.
func TestPacked(t *testing.T) {
	m := ran(t, "push 1; push 2; push 3; push 4; pack 2; store 0; push 5; push 6; push 7; pack 2; store 1; push 8; push 9; push 10; pack 5; load 0; load 1; pack 3; store 2; push 0; push 0; push 0; pop; pop; load 2; pack 3; return", started(1, num(0)))
	isOver(t, m, "@1 complete [1 0 [[2 5 8 9 10] [3 4] [6 7]]]")
}
