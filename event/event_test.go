package event

import (
	"math"
	"reflect"
	"slices"
	"strings"
	"testing"

	"foliot/api"
	"foliot/value"
)

// kindRow is a kind as the document tells it, by its number, and whether it is bookkeeping, closes a run, and comes from outside.
type kindRow struct {
	name, has             string
	task, closes, outside bool
}

func told() []kindRow {
	return []kindRow{
		{"", "", false, false, false},
		{"run-started", "ABNTV", false, false, true},
		{"task-scheduled", "B", true, false, false},
		{"task-started", "AB", true, false, false},
		{"task-completed", "AB", false, false, false},
		{"task-timed-out", "B", true, false, false},
		{"task-failed", "BN", true, false, false},
		{"activity-scheduled", "ABNV", false, false, false},
		{"activity-completed", "AV", false, false, true},
		{"activity-failed", "AN", false, false, true},
		{"activity-timed-out", "A", false, false, true},
		{"timer-started", "AB", false, false, false},
		{"timer-fired", "A", false, false, true},
		{"timer-canceled", "A", false, false, false},
		{"signal-received", "NV", false, false, true},
		{"cancel-requested", "", false, false, true},
		{"run-completed", "V", false, true, false},
		{"run-failed", "N", false, true, false},
		{"run-canceled", "", false, true, false},
		{"run-terminated", "N", false, true, true},
		{"run-timed-out", "", false, true, true},
		{"continued-as-new", "BV", false, true, false},
	}
}

// noKinds is numbers of no kind.
func noKinds() []int {
	return []int{0, -1, 22, 23, 255, 256, 257, 256 + api.TimerFired, math.MinInt, math.MinInt + 1, math.MaxInt}
}

func num(n int64) api.Value { return api.Value{Kind: api.Int, N: n} }

func text(s string) api.Value { return api.Value{Kind: api.Text, S: s} }

func list(l ...api.Value) api.Value { return api.Value{Kind: api.List, List: l} }

// nested: a number in n lists.
func nested(n int) api.Value {
	v := num(1)
	for range n {
		v = list(v)
	}
	return v
}

// endless: a list that stands in itself, twice.
func endless() api.Value {
	l := make([]api.Value, 2)
	l[0], l[1] = list(l...), list(l...)
	return list(l...)
}

// filled: an event of a kind with something in each field that the kind has.
func filled(kind int) api.Event {
	e := api.Event{ID: 5, Time: 300, Kind: kind}
	for _, c := range told()[kind].has {
		switch c {
		case 'A':
			e.A = 7
		case 'B':
			e.B = 1 << 40
		case 'N':
			e.Name = "name"
		case 'T':
			e.Text = "a \"text\""
		case 'V':
			e.Value = list(num(-1), text("v"), list())
		}
	}
	return e
}

// bare: an event of a kind with nothing in its fields.
func bare(kind int) api.Event { return api.Event{ID: 1, Kind: kind} }

// full: an event of a kind with as much as may be in each field that the kind has.
func full(kind int) api.Event {
	e := api.Event{ID: MaxID, Time: MaxTime, Kind: kind}
	for _, c := range told()[kind].has {
		switch c {
		case 'A':
			e.A = math.MaxInt64
		case 'B':
			e.B = math.MaxInt64
		case 'N':
			e.Name = strings.Repeat("n", 64)
		case 'T':
			e.Text = strings.Repeat("\xff", 128)
		case 'V':
			e.Value = list(text(strings.Repeat("x", 256)), text(strings.Repeat("y", 248)))
		}
	}
	return e
}

func allKinds(t *testing.T, each func(kind int, row kindRow)) {
	t.Helper()
	for kind, row := range told() {
		if kind > 0 {
			each(kind, row)
		}
	}
}

// The limits stand as the document has them.
func TestLimits(t *testing.T) {
	if MaxName != 64 || MaxText != 128 || MaxID != 1048576 || MaxTime != 4611686018427387903 {
		t.Error("limits")
	}
}

// P9.1.
func TestNames(t *testing.T) {
	if api.RunStarted != 1 || api.ContinuedAsNew != 21 || len(told()) != 22 {
		t.Fatal("not the document's kinds")
	}
	allKinds(t, func(kind int, row kindRow) {
		if got := Name(kind); got != row.name {
			t.Errorf("Name(%d) = %q, want %q", kind, got, row.name)
		}
		if got := Kind(row.name); got != kind {
			t.Errorf("Kind(%q) = %d, want %d", row.name, got, kind)
		}
		for _, s := range []string{row.name + " ", " " + row.name, row.name + "\n", row.name[1:], row.name[:len(row.name)-1], strings.ToUpper(row.name), row.name + " " + row.has, row.name + "\x00"} {
			if got := Kind(s); got != 0 {
				t.Errorf("Kind(%q) = %d", s, got)
			}
		}
	})
	for _, kind := range noKinds() {
		if got := Name(kind); got != "" {
			t.Errorf("Name(%d) = %q", kind, got)
		}
	}
	for _, s := range []string{"", " ", "ABNTV", "\n", ".....", "task", "start-timer", "\xff"} {
		if got := Kind(s); got != 0 {
			t.Errorf("Kind(%q) = %d", s, got)
		}
	}
}

// P9.2: of each kind, what may be, with nothing in its fields, something, and as much as may be.
func TestCheckMayBe(t *testing.T) {
	allKinds(t, func(kind int, row kindRow) {
		for _, e := range []api.Event{bare(kind), filled(kind), full(kind)} {
			if got := Check(e); got != api.OK {
				t.Errorf("Check(%+v) = %v", e, got)
			}
		}
		littered := bare(kind)
		littered.Value = api.Value{N: 5, S: "litter", List: []api.Value{num(1)}}
		if got := Check(littered); got != api.OK {
			t.Errorf("Check of %s with nil, whose other fields don't count = %v", row.name, got)
		}
	})
	for _, kind := range noKinds() {
		if got := Check(api.Event{ID: 1, Kind: kind}); got != api.ErrKind {
			t.Errorf("Check of the kind %d = %v", kind, got)
		}
	}
}

// P9.2: of each kind, each field that it hasn't, and each that it has at and beyond its limits.
func TestCheckFields(t *testing.T) {
	long, wide := strings.Repeat("n", 65), strings.Repeat("t", 129)
	allKinds(t, func(kind int, row kindRow) {
		had := func(letter string, has, hasNot api.Errno) api.Errno {
			if strings.Contains(row.has, letter) {
				return has
			}
			return hasNot
		}
		for _, x := range []struct {
			change func(e *api.Event)
			want   api.Errno
		}{
			{func(e *api.Event) { e.ID = 0 }, api.ErrRange},
			{func(e *api.Event) { e.ID = -1 }, api.ErrRange},
			{func(e *api.Event) { e.ID = 1<<20 + 1 }, api.ErrRange},
			{func(e *api.Event) { e.ID = math.MinInt }, api.ErrRange},
			{func(e *api.Event) { e.ID = math.MaxInt }, api.ErrRange},
			{func(e *api.Event) { e.Time = -1 }, api.ErrRange},
			{func(e *api.Event) { e.Time = 1 << 62 }, api.ErrRange},
			{func(e *api.Event) { e.Time = math.MinInt64 }, api.ErrRange},
			{func(e *api.Event) { e.Time = math.MaxInt64 }, api.ErrRange},
			{func(e *api.Event) { e.A = -1 }, api.ErrRange},
			{func(e *api.Event) { e.A = math.MinInt64 }, api.ErrRange},
			{func(e *api.Event) { e.A = 1 }, had("A", api.OK, api.ErrRange)},
			{func(e *api.Event) { e.B = -1 }, api.ErrRange},
			{func(e *api.Event) { e.B = math.MinInt64 }, api.ErrRange},
			{func(e *api.Event) { e.B = 1 }, had("B", api.OK, api.ErrRange)},
			{func(e *api.Event) { e.Name = long }, api.ErrLong},
			{func(e *api.Event) { e.Name = long[:64] }, had("N", api.OK, api.ErrForm)},
			{func(e *api.Event) { e.Name = "\x00" }, had("N", api.OK, api.ErrForm)},
			{func(e *api.Event) { e.Text = wide }, api.ErrLong},
			{func(e *api.Event) { e.Text = wide[:128] }, had("T", api.OK, api.ErrForm)},
			{func(e *api.Event) { e.Text = "\x00" }, had("T", api.OK, api.ErrForm)},
			{func(e *api.Event) { e.Value = num(0) }, had("V", api.OK, api.ErrForm)},
			{func(e *api.Event) { e.Value = text("") }, had("V", api.OK, api.ErrForm)},
			{func(e *api.Event) { e.Value = list() }, had("V", api.OK, api.ErrForm)},
			{func(e *api.Event) { e.Value = text(strings.Repeat("x", 257)) }, had("V", api.ErrLong, api.ErrForm)},
			{func(e *api.Event) { e.Value = api.Value{Kind: 4} }, had("V", api.ErrKind, api.ErrForm)},
			{func(e *api.Event) { e.Value = api.Value{Kind: -1} }, had("V", api.ErrKind, api.ErrForm)},
			{func(e *api.Event) { e.Value = nested(9) }, had("V", api.ErrDeep, api.ErrForm)},
			{func(e *api.Event) { e.Value = endless() }, had("V", api.ErrDeep, api.ErrForm)},
		} {
			e := bare(kind)
			x.change(&e)
			if got := Check(e); got != x.want {
				t.Errorf("Check(%s, %+v) = %v, want %v", row.name, e.ID, got, x.want)
			}
			b, err := Encode(e)
			if err != x.want || (err != api.OK) != (b == nil) {
				t.Errorf("Encode(%s): %x, %v, want %v", row.name, b, err, x.want)
			}
		}
	})
}

// P9.2: of several errors the one that is named first is the answer.
func TestCheckOrder(t *testing.T) {
	faults := []struct {
		change func(e *api.Event)
		want   api.Errno
	}{
		{func(e *api.Event) { e.Kind = 22 }, api.ErrKind},
		{func(e *api.Event) { e.ID = 0 }, api.ErrRange},
		{func(e *api.Event) { e.Time = -1 }, api.ErrRange},
		{func(e *api.Event) { e.A = -1 }, api.ErrRange},
		{func(e *api.Event) { e.B = 1 }, api.ErrRange},
		{func(e *api.Event) { e.Name = strings.Repeat("n", 65) }, api.ErrLong},
		{func(e *api.Event) { e.Text = strings.Repeat("t", 129) }, api.ErrLong},
		{func(e *api.Event) { e.Value = text(strings.Repeat("x", 257)) }, api.ErrForm},
	}
	for i, one := range faults {
		for _, two := range faults[i:] {
			e := bare(api.CancelRequested)
			two.change(&e)
			one.change(&e)
			if got := Check(e); got != one.want {
				t.Errorf("Check(%+v) = %v, want %v", e, got, one.want)
			}
		}
	}
	// What a kind hasn't is told ahead of what its value is.
	e := bare(api.SignalReceived)
	e.Value = api.Value{Kind: 9}
	if got := Check(e); got != api.ErrKind {
		t.Errorf("Check of a wrong value: %v", got)
	}
	e.Text = "t"
	if got := Check(e); got != api.ErrForm {
		t.Errorf("Check of a wrong value behind a needless text: %v", got)
	}
}

// P9.4.
func TestSame(t *testing.T) {
	base := filled(api.RunStarted)
	again := filled(api.RunStarted)
	if !Same(base, again) || !Same(api.Event{}, api.Event{}) {
		t.Error("the same aren't")
	}
	for i, change := range []func(e *api.Event){
		func(e *api.Event) { e.ID++ },
		func(e *api.Event) { e.Time++ },
		func(e *api.Event) { e.Kind++ },
		func(e *api.Event) { e.A++ },
		func(e *api.Event) { e.B++ },
		func(e *api.Event) { e.Name += "x" },
		func(e *api.Event) { e.Text += "x" },
		func(e *api.Event) { e.Value = api.Value{} },
		func(e *api.Event) { e.Value = list(num(-1), text("v"), list(api.Value{})) },
	} {
		other := filled(api.RunStarted)
		change(&other)
		if Same(base, other) || Same(other, base) {
			t.Errorf("the change %d isn't seen", i)
		}
	}
	// What a value's kind doesn't have doesn't count, and an empty list may be nil or not.
	a, b := base, base
	a.Value = api.Value{Kind: api.List, N: 3, S: "s"}
	b.Value = api.Value{Kind: api.List, List: []api.Value{}}
	if !Same(a, b) {
		t.Error("fields that don't count, count")
	}
	a.Value = endless()
	if Same(a, base) || Same(base, a) {
		t.Error("an endless value")
	}
}

// P9.4.
func TestSorts(t *testing.T) {
	allKinds(t, func(kind int, row kindRow) {
		for _, e := range []api.Event{bare(kind), full(kind), {Kind: kind}} {
			if Task(e) != row.task || Closes(e) != row.closes || Outside(e) != row.outside {
				t.Errorf("%s: %v %v %v", row.name, Task(e), Closes(e), Outside(e))
			}
		}
	})
	for _, kind := range noKinds() {
		e := api.Event{ID: 1, Kind: kind}
		if Task(e) || Closes(e) || Outside(e) {
			t.Errorf("the kind %d: %v %v %v", kind, Task(e), Closes(e), Outside(e))
		}
	}
}

// P9.4: of each kind two events, with numbers of all sorts.
func TestErase(t *testing.T) {
	var all, want []api.Event
	allKinds(t, func(kind int, row kindRow) {
		for _, e := range []api.Event{filled(kind), bare(kind)} {
			e.ID = 100 - 3*len(all)
			all = append(all, e)
			if !row.task {
				e.ID = len(want) + 1
				want = append(want, e)
			}
		}
	})
	was := slices.Clone(all)
	got := Erase(all...)
	if !slices.EqualFunc(got, want, Same) {
		t.Errorf("Erase: %+v, want %+v", got, want)
	}
	if len(got) != 34 || !slices.EqualFunc(all, was, Same) {
		t.Error("what was handed in is changed")
	}
	for _, l := range [][]api.Event{nil, {}, {bare(api.TaskScheduled), bare(api.TaskFailed)}} {
		if got := Erase(l...); len(got) != 0 {
			t.Errorf("Erase of %d events of bookkeeping: %d", len(l), len(got))
		}
	}
}

// P9.4: events that may not be are kept likewise.
func TestEraseAny(t *testing.T) {
	got := Erase(api.Event{ID: -4, Kind: 99, Name: "x"}, bare(api.TaskStarted), api.Event{Kind: api.TimerFired, A: -1})
	want := []api.Event{{ID: 1, Kind: 99, Name: "x"}, {ID: 2, Kind: api.TimerFired, A: -1}}
	if !slices.EqualFunc(got, want, Same) {
		t.Errorf("Erase: %+v", got)
	}
	if got := Erase(api.Event{Kind: api.RunCompleted, Value: endless()}); len(got) != 1 || got[0].ID != 1 {
		t.Errorf("Erase of an endless value: %d", len(got))
	}
}

// P2: Erase keeps nothing of what it is given, its spare room neither, and answers memory of its own.
func TestEraseMemory(t *testing.T) {
	values := []api.Value{num(1), list(num(2)), num(7)}
	all := []api.Event{bare(api.TaskStarted), {Kind: api.RunCompleted, Value: list(values[:2]...)}, bare(api.RunCanceled), bare(api.RunTimedOut)}
	all[1].Value.List = values[:2]
	one, two := Erase(all[:3]...), Erase(all[:3]...)
	one[0].Value.List[1].List[0].N = 99
	_ = append(one[0].Value.List, num(98))
	_ = append(one, api.Event{ID: 97})
	if values[1].List[0].N != 2 || values[2].N != 7 || two[0].Value.List[1].List[0].N != 2 || all[3].ID != 1 {
		t.Error("an answer shares memory")
	}
	values[0].N = 55
	if two[0].Value.List[0].N != 1 {
		t.Error("what was handed in is kept")
	}
}

// P9.5: each field of each kind.
func TestPrint(t *testing.T) {
	for _, x := range []struct {
		e    api.Event
		want string
	}{
		{api.Event{ID: 3, Time: 7, Kind: api.TimerFired, A: 2}, `3 @7 timer-fired 2`},
		{filled(api.RunStarted), `5 @300 run-started 7 1099511627776 "name" "a \"text\"" [-1 "v" []]`},
		{filled(api.TaskScheduled), `5 @300 task-scheduled 1099511627776`},
		{filled(api.TaskStarted), `5 @300 task-started 7 1099511627776`},
		{filled(api.TaskCompleted), `5 @300 task-completed 7 1099511627776`},
		{filled(api.TaskTimedOut), `5 @300 task-timed-out 1099511627776`},
		{filled(api.TaskFailed), `5 @300 task-failed 1099511627776 "name"`},
		{filled(api.ActivityScheduled), `5 @300 activity-scheduled 7 1099511627776 "name" [-1 "v" []]`},
		{filled(api.ActivityCompleted), `5 @300 activity-completed 7 [-1 "v" []]`},
		{filled(api.ActivityFailed), `5 @300 activity-failed 7 "name"`},
		{filled(api.ActivityTimedOut), `5 @300 activity-timed-out 7`},
		{filled(api.TimerStarted), `5 @300 timer-started 7 1099511627776`},
		{filled(api.TimerFired), `5 @300 timer-fired 7`},
		{filled(api.TimerCanceled), `5 @300 timer-canceled 7`},
		{filled(api.SignalReceived), `5 @300 signal-received "name" [-1 "v" []]`},
		{filled(api.CancelRequested), `5 @300 cancel-requested`},
		{filled(api.RunCompleted), `5 @300 run-completed [-1 "v" []]`},
		{filled(api.RunFailed), `5 @300 run-failed "name"`},
		{filled(api.RunCanceled), `5 @300 run-canceled`},
		{filled(api.RunTerminated), `5 @300 run-terminated "name"`},
		{filled(api.RunTimedOut), `5 @300 run-timed-out`},
		{filled(api.ContinuedAsNew), `5 @300 continued-as-new 1099511627776 [-1 "v" []]`},
		{bare(api.RunStarted), `1 @0 run-started 0 0 "" "" nil`},
		{api.Event{ID: MaxID, Time: MaxTime, Kind: api.TimerStarted, A: math.MaxInt64}, `1048576 @4611686018427387903 timer-started 9223372036854775807 0`},
		{api.Event{ID: 1, Kind: api.SignalReceived, Name: "\x00é"}, `1 @0 signal-received "\x00\xc3\xa9" nil`},
	} {
		if got := Print(x.e); got != x.want {
			t.Errorf("Print: %s, want %s", got, x.want)
		}
	}
}

// P1: whatever the event, each call ends, and answers the same once more.
func TestAnyEvent(t *testing.T) {
	numbers := []int64{0, 1, -1, math.MinInt64, math.MaxInt64, MaxTime + 1, 300}
	texts := []string{"", "x", "\xff\"\\", strings.Repeat("y", 5000)}
	values := []api.Value{{}, num(1), {Kind: 77, N: 3}, {Kind: math.MinInt}, endless(), nested(20), list(make([]api.Value, 300)...)}
	for i := range 4000 {
		e := api.Event{
			ID: int(numbers[i%7]), Time: numbers[i/2%7], Kind: i%26 - 2, A: numbers[i/3%7], B: numbers[i/5%7],
			Name: texts[i/7%4], Text: texts[i/11%4], Value: values[i/13%7],
		}
		b, err := Encode(e)
		sum, linkErr := Link(api.Sum{1}, e)
		if err != Check(e) || linkErr != err || (err != api.OK) != (sum == api.Sum{}) || Print(e) != Print(e) || !Same(e, e) || len(Erase(e, e)) == 1 {
			t.Fatalf("%+v", e)
		}
		if err != api.OK {
			continue
		}
		got, err := Decode(b)
		if err != api.OK || !Same(got, e) || !reflect.DeepEqual(got.Value, value.Clone(e.Value)) {
			t.Fatalf("%s: %s, %v", Print(e), Print(got), err)
		}
	}
}
