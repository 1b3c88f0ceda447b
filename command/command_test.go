package command

import (
	"math"
	"reflect"
	"slices"
	"strings"
	"testing"

	"foliot/api"
	"foliot/event"
	"foliot/value"
)

const lastTick = 1<<62 - 1

// kindRow is a kind as the document tells it, by its number, with whether a run is over with it, and the kind of what is written of it.
type kindRow struct {
	name, has string
	ends      bool
	event     int
}

func told() []kindRow {
	return []kindRow{
		{"", "", false, 0},
		{"start-timer", "AB", false, 11},
		{"cancel-timer", "A", false, 13},
		{"schedule", "ABNV", false, 7},
		{"complete", "V", true, 16},
		{"fail", "N", true, 17},
		{"again", "V", true, 21},
	}
}

// noKinds is numbers of no kind.
func noKinds() []int {
	return []int{0, -1, 7, 8, 255, 256, 257, math.MinInt, math.MaxInt}
}

func num(n int64) api.Value { return api.Value{Kind: api.Int, N: n} }

func text(s string) api.Value { return api.Value{Kind: api.Text, S: s} }

func list(l ...api.Value) api.Value { return api.Value{Kind: api.List, List: l} }

// nested: a number in n lists.
func nested(n int) api.Value {
	v := num(1)
	for range n {
		v = list(v)
	}
	return v
}

// endless: a list that stands in itself, twice.
func endless() api.Value {
	l := make([]api.Value, 2)
	l[0], l[1] = list(l...), list(l...)
	return list(l...)
}

// filled: a command of a kind with something in each field that the kind has.
func filled(kind int) api.Command {
	c := api.Command{Kind: kind, Time: 300}
	for _, letter := range told()[kind].has {
		switch letter {
		case 'A':
			c.A = 7
		case 'B':
			c.B = 1 << 40
		case 'N':
			c.Name = "name"
		case 'V':
			c.Value = list(num(-1), text("v"), list())
		}
	}
	return c
}

// bare: a command of a kind with nothing in its fields.
func bare(kind int) api.Command { return api.Command{Kind: kind} }

// full: a command of a kind with as much as may be in each field that the kind has.
func full(kind int) api.Command {
	c := api.Command{Kind: kind, Time: lastTick}
	for _, letter := range told()[kind].has {
		switch letter {
		case 'A':
			c.A = math.MaxInt64
		case 'B':
			c.B = math.MaxInt64
		case 'N':
			c.Name = strings.Repeat("n", 64)
		case 'V':
			c.Value = list(text(strings.Repeat("x", 256)), text(strings.Repeat("y", 248)))
		}
	}
	return c
}

func allKinds(t *testing.T, each func(kind int, row kindRow)) {
	t.Helper()
	for kind, row := range told() {
		if kind > 0 {
			each(kind, row)
		}
	}
}

// P10.1.
func TestNames(t *testing.T) {
	if api.StartTimer != 1 || api.Again != 6 || MaxMany != 256 {
		t.Fatal("not the document's kinds and limits")
	}
	allKinds(t, func(kind int, row kindRow) {
		if got := Name(kind); got != row.name {
			t.Errorf("Name(%d) = %q, want %q", kind, got, row.name)
		}
		for _, c := range []api.Command{bare(kind), full(kind), {Kind: kind, Time: -1, A: -1}} {
			if got := Ends(c); got != row.ends {
				t.Errorf("Ends of %s: %v", row.name, got)
			}
		}
	})
	for _, kind := range noKinds() {
		if Name(kind) != "" || Ends(api.Command{Kind: kind}) {
			t.Errorf("the kind %d: %q, %v", kind, Name(kind), Ends(api.Command{Kind: kind}))
		}
	}
}

// P10.2: of each kind, what may be, with nothing in its fields, something, and as much as may be.
func TestCheckMayBe(t *testing.T) {
	allKinds(t, func(kind int, row kindRow) {
		for _, c := range []api.Command{bare(kind), filled(kind), full(kind)} {
			if got := Check(c); got != api.OK {
				t.Errorf("Check(%+v) = %v", c, got)
			}
		}
		littered := bare(kind)
		littered.Value = api.Value{N: 5, S: "litter", List: []api.Value{num(1)}}
		if got := Check(littered); got != api.OK {
			t.Errorf("Check of %s with nil, whose other fields don't count = %v", row.name, got)
		}
	})
	for _, kind := range noKinds() {
		if got := Check(api.Command{Kind: kind}); got != api.ErrKind {
			t.Errorf("Check of the kind %d = %v", kind, got)
		}
	}
}

// P10.2: of each kind, each field that it hasn't, and each that it has at and beyond its limits.
func TestCheckFields(t *testing.T) {
	long := strings.Repeat("n", 65)
	allKinds(t, func(kind int, row kindRow) {
		had := func(letter string, has, hasNot api.Errno) api.Errno {
			if strings.Contains(row.has, letter) {
				return has
			}
			return hasNot
		}
		for i, x := range []struct {
			change func(c *api.Command)
			want   api.Errno
		}{
			{func(c *api.Command) { c.Time = -1 }, api.ErrRange},
			{func(c *api.Command) { c.Time = lastTick + 1 }, api.ErrRange},
			{func(c *api.Command) { c.Time = math.MinInt64 }, api.ErrRange},
			{func(c *api.Command) { c.Time = math.MaxInt64 }, api.ErrRange},
			{func(c *api.Command) { c.A = -1 }, api.ErrRange},
			{func(c *api.Command) { c.A = math.MinInt64 }, api.ErrRange},
			{func(c *api.Command) { c.A = 1 }, had("A", api.OK, api.ErrRange)},
			{func(c *api.Command) { c.B = -1 }, api.ErrRange},
			{func(c *api.Command) { c.B = math.MinInt64 }, api.ErrRange},
			{func(c *api.Command) { c.B = 1 }, had("B", api.OK, api.ErrRange)},
			{func(c *api.Command) { c.Name = long }, api.ErrLong},
			{func(c *api.Command) { c.Name = long[:64] }, had("N", api.OK, api.ErrForm)},
			{func(c *api.Command) { c.Name = "\x00" }, had("N", api.OK, api.ErrForm)},
			{func(c *api.Command) { c.Value = num(0) }, had("V", api.OK, api.ErrForm)},
			{func(c *api.Command) { c.Value = text("") }, had("V", api.OK, api.ErrForm)},
			{func(c *api.Command) { c.Value = list() }, had("V", api.OK, api.ErrForm)},
			{func(c *api.Command) { c.Value = text(strings.Repeat("x", 257)) }, had("V", api.ErrLong, api.ErrForm)},
			{func(c *api.Command) { c.Value = api.Value{Kind: 4} }, had("V", api.ErrKind, api.ErrForm)},
			{func(c *api.Command) { c.Value = api.Value{Kind: -1} }, had("V", api.ErrKind, api.ErrForm)},
			{func(c *api.Command) { c.Value = nested(9) }, had("V", api.ErrDeep, api.ErrForm)},
			{func(c *api.Command) { c.Value = endless() }, had("V", api.ErrDeep, api.ErrForm)},
		} {
			c := bare(kind)
			x.change(&c)
			if got := Check(c); got != x.want {
				t.Errorf("Check of %s, the change %d = %v, want %v", row.name, i, got, x.want)
			}
			if got := All(c); got != x.want {
				t.Errorf("All of %s, the change %d = %v, want %v", row.name, i, got, x.want)
			}
			if b, e := Encode(c); e != x.want || (e != api.OK) != (b == nil) {
				t.Errorf("Encode of %s, the change %d: %x, %v, want %v", row.name, i, b, e, x.want)
			}
		}
	})
}

// P10.2: of several errors the one that is named first is the answer.
func TestCheckOrder(t *testing.T) {
	faults := []struct {
		change func(c *api.Command)
		want   api.Errno
	}{
		{func(c *api.Command) { c.Kind = 7 }, api.ErrKind},
		{func(c *api.Command) { c.Time = -1 }, api.ErrRange},
		{func(c *api.Command) { c.A = -1 }, api.ErrRange},
		{func(c *api.Command) { c.B = 1 }, api.ErrRange},
		{func(c *api.Command) { c.Name = strings.Repeat("n", 65) }, api.ErrLong},
		{func(c *api.Command) { c.Value = text(strings.Repeat("x", 257)) }, api.ErrForm},
	}
	for i, one := range faults {
		for _, two := range faults[i:] {
			c := bare(api.CancelTimer)
			two.change(&c)
			one.change(&c)
			if got := Check(c); got != one.want {
				t.Errorf("Check(%+v) = %v, want %v", c, got, one.want)
			}
		}
	}
	// What a kind hasn't is told ahead of what its value is.
	c := bare(api.Complete)
	c.Value = api.Value{Kind: 9}
	if got := Check(c); got != api.ErrKind {
		t.Errorf("Check of a wrong value: %v", got)
	}
	c.Name = "n"
	if got := Check(c); got != api.ErrForm {
		t.Errorf("Check of a wrong value behind a needless name: %v", got)
	}
}

// P10.2.
func TestAll(t *testing.T) {
	timer, end, wrong := bare(api.StartTimer), bare(api.Complete), bare(7)
	many := make([]api.Command, 257)
	for i := range many {
		many[i] = timer
	}
	closed := slices.Clone(many[:256])
	closed[255] = end
	early := slices.Clone(closed)
	early[254] = bare(api.Again)
	for name, x := range map[string]struct {
		list []api.Command
		want api.Errno
	}{
		"none":                                  {nil, api.OK},
		"one":                                   {[]api.Command{timer}, api.OK},
		"the end alone":                         {[]api.Command{end}, api.OK},
		"the end at the end":                    {[]api.Command{timer, timer, bare(api.Fail)}, api.OK},
		"256":                                   {many[:256], api.OK},
		"256, the last the end":                 {closed, api.OK},
		"256, the last but one an end":          {early, api.ErrState},
		"257":                                   {many, api.ErrLong},
		"257 wrong ones":                        {make([]api.Command, 257), api.ErrLong},
		"a complete ahead of others":            {[]api.Command{end, timer}, api.ErrState},
		"a fail ahead of others":                {[]api.Command{timer, bare(api.Fail), timer}, api.ErrState},
		"an again ahead of others":              {[]api.Command{bare(api.Again), timer}, api.ErrState},
		"two ends":                              {[]api.Command{end, end}, api.ErrState},
		"a wrong one":                           {[]api.Command{timer, wrong, timer}, api.ErrKind},
		"a wrong one ahead of an end too early": {[]api.Command{wrong, end, timer}, api.ErrKind},
		"a wrong one behind an end":             {[]api.Command{end, wrong}, api.ErrState},
		"an end that is wrong and too early":    {[]api.Command{{Kind: api.Fail, Time: -1}, timer}, api.ErrRange},
		"the first of two that are wrong":       {[]api.Command{{Kind: api.Fail, Name: strings.Repeat("n", 65)}, wrong}, api.ErrLong},
		"the first of two that are wrong, the last": {[]api.Command{timer, wrong, {Kind: api.Fail, Time: -1}}, api.ErrKind},
	} {
		if got := All(x.list...); got != x.want {
			t.Errorf("All, %s: %v, want %v", name, got, x.want)
		}
		if b, e := Encode(x.list...); e != x.want || (e != api.OK) != (b == nil) {
			t.Errorf("Encode, %s: %x, %v, want %v", name, b, e, x.want)
		}
	}
}

// P10.4.
func TestSame(t *testing.T) {
	base := filled(api.Schedule)
	if !Same(base, filled(api.Schedule)) || !Same(api.Command{}, api.Command{}) {
		t.Error("the same aren't")
	}
	for i, change := range []func(c *api.Command){
		func(c *api.Command) { c.Kind++ },
		func(c *api.Command) { c.Time++ },
		func(c *api.Command) { c.A++ },
		func(c *api.Command) { c.B++ },
		func(c *api.Command) { c.Name += "x" },
		func(c *api.Command) { c.Value = api.Value{} },
		func(c *api.Command) { c.Value = list(num(-1), text("v"), list(api.Value{})) },
	} {
		other := filled(api.Schedule)
		change(&other)
		if Same(base, other) || Same(other, base) {
			t.Errorf("the change %d isn't seen", i)
		}
	}
	a, b := base, base
	a.Value = api.Value{Kind: api.List, N: 3, S: "s"}
	b.Value = api.Value{Kind: api.List, List: []api.Value{}}
	if !Same(a, b) {
		t.Error("fields that don't count, count")
	}
	a.Value = endless()
	if Same(a, base) || Same(base, a) {
		t.Error("an endless value")
	}
}

// P10.4.
func TestSaturate(t *testing.T) {
	for _, x := range []struct{ now, ticks, want int64 }{
		{0, 0, 0}, {4, 5, 9}, {5, 0, 5}, {0, 5, 5},
		{-1, 5, 0}, {5, -1, 0}, {-1, -1, 0}, {math.MinInt64, math.MaxInt64, 0}, {math.MaxInt64, math.MinInt64, 0}, {math.MinInt64, math.MinInt64, 0},
		{lastTick, 0, lastTick}, {0, lastTick, lastTick}, {lastTick - 1, 1, lastTick}, {lastTick - 1, 0, lastTick - 1}, {1, lastTick - 2, lastTick - 1},
		{lastTick, 1, lastTick}, {1, lastTick, lastTick}, {lastTick, lastTick, lastTick}, {lastTick + 1, 0, lastTick}, {0, lastTick + 1, lastTick},
		{math.MaxInt64, 0, lastTick}, {0, math.MaxInt64, lastTick}, {1, math.MaxInt64, lastTick}, {math.MaxInt64, 1, lastTick}, {math.MaxInt64, math.MaxInt64, lastTick}, {lastTick, math.MaxInt64, lastTick},
	} {
		if got := Saturate(x.now, x.ticks); got != x.want {
			t.Errorf("Saturate(%d, %d) = %d, want %d", x.now, x.ticks, got, x.want)
		}
	}
}

// P10.4.
func TestEvent(t *testing.T) {
	v := list(num(-1), text("v"), list())
	for _, x := range []struct {
		c    api.Command
		want api.Event
	}{
		{api.Command{Kind: api.StartTimer, Time: 4, A: 1, B: 5}, api.Event{Kind: api.TimerStarted, Time: 4, A: 1, B: 9}},
		{full(1), api.Event{Kind: api.TimerStarted, Time: lastTick, A: math.MaxInt64, B: lastTick}},
		{api.Command{Kind: api.StartTimer, Time: 4, B: lastTick - 4}, api.Event{Kind: api.TimerStarted, Time: 4, B: lastTick}},
		{filled(1), api.Event{Kind: api.TimerStarted, Time: 300, A: 7, B: 1<<40 + 300}},
		{filled(2), api.Event{Kind: api.TimerCanceled, Time: 300, A: 7}},
		{filled(3), api.Event{Kind: api.ActivityScheduled, Time: 300, A: 7, B: 1 << 40, Name: "name", Value: v}},
		{full(3), api.Event{Kind: api.ActivityScheduled, Time: lastTick, A: math.MaxInt64, B: math.MaxInt64, Name: full(3).Name, Value: full(3).Value}},
		{filled(4), api.Event{Kind: api.RunCompleted, Time: 300, Value: v}},
		{filled(5), api.Event{Kind: api.RunFailed, Time: 300, Name: "name"}},
		{filled(6), api.Event{Kind: api.ContinuedAsNew, Time: 300, Value: v}},
		{bare(6), api.Event{Kind: api.ContinuedAsNew}},
	} {
		if got := Event(x.c); !event.Same(got, x.want) {
			t.Errorf("Event of %s: %+v, want %+v", Print(x.c), got, x.want)
		}
	}
	// What may be is written as what may be, once it has a number.
	allKinds(t, func(kind int, row kindRow) {
		for _, c := range []api.Command{bare(kind), filled(kind), full(kind)} {
			e := Event(c)
			if e.Kind != row.event || e.ID != 0 || e.Time != c.Time {
				t.Errorf("Event of %s: %+v", row.name, e)
			}
			e.ID = 1
			if err := event.Check(e); err != api.OK {
				t.Errorf("Event of %s may not be: %v", row.name, err)
			}
		}
	})
}

// P10.5: of each kind, each field of the event.
func TestFits(t *testing.T) {
	allKinds(t, func(kind int, row kindRow) {
		for _, c := range []api.Command{bare(kind), filled(kind), full(kind)} {
			for _, id := range []int{0, 1, 500, event.MaxID, math.MaxInt, -1} {
				e := Event(c)
				e.ID = id
				if !Fits(c, e) {
					t.Errorf("Fits of %s, with the ID %d", row.name, id)
				}
			}
			for i, change := range []func(e *api.Event){
				func(e *api.Event) { e.Time ^= 1 },
				func(e *api.Event) { e.A ^= 1 },
				func(e *api.Event) { e.Name += "x" },
				func(e *api.Event) { e.Text += "x" },
				func(e *api.Event) { e.Value = list(e.Value) },
				func(e *api.Event) { e.Kind++ },
				func(e *api.Event) { e.Kind = 0 },
			} {
				e := Event(c)
				change(&e)
				if Fits(c, e) {
					t.Errorf("Fits of %s doesn't see the change %d", row.name, i)
				}
			}
			for _, b := range []int64{1, 77, -1, math.MaxInt64 - 1} {
				e := Event(c)
				e.B ^= b
				if got := Fits(c, e); got != (kind == api.Again) {
					t.Errorf("Fits of %s, with another B: %v", row.name, got)
				}
			}
		}
	})
	// In a command's own words a timer is told otherwise than what is written of it.
	c := api.Command{Kind: api.StartTimer, Time: 2, A: 1, B: 5}
	if Fits(c, api.Event{ID: 3, Kind: api.TimerStarted, Time: 2, A: 1, B: 5}) || Fits(c, api.Event{ID: 3, Kind: api.TimerStarted, Time: 2, A: 1, B: 8}) || !Fits(c, api.Event{ID: 3, Kind: api.TimerStarted, Time: 2, A: 1, B: 7}) {
		t.Error("Fits of a timer")
	}
	if Fits(c, api.Event{Kind: api.TimerStarted, Time: 2, A: 1, B: 7, Value: endless()}) {
		t.Error("Fits of an endless value")
	}
}

// P10.5.
func TestMade(t *testing.T) {
	made := []int{api.ActivityScheduled, api.TimerStarted, api.TimerCanceled, api.RunCompleted, api.RunFailed, api.ContinuedAsNew}
	for kind := -3; kind < 300; kind++ {
		if got := Made(api.Event{ID: 1, Kind: kind}); got != slices.Contains(made, kind) {
			t.Errorf("Made of the kind %d: %v", kind, got)
		}
	}
	if Made(api.Event{Kind: math.MinInt}) || Made(api.Event{Kind: math.MaxInt}) || !Made(api.Event{Kind: api.RunFailed, ID: -1, A: 5, Text: "x"}) {
		t.Error("Made")
	}
}

// P10.6: each field of each kind.
func TestPrint(t *testing.T) {
	for _, x := range []struct {
		c    api.Command
		want string
	}{
		{api.Command{Kind: api.StartTimer, Time: 4, A: 1, B: 5}, `@4 start-timer 1 5`},
		{filled(1), `@300 start-timer 7 1099511627776`},
		{filled(2), `@300 cancel-timer 7`},
		{filled(3), `@300 schedule 7 1099511627776 "name" [-1 "v" []]`},
		{filled(4), `@300 complete [-1 "v" []]`},
		{filled(5), `@300 fail "name"`},
		{filled(6), `@300 again [-1 "v" []]`},
		{bare(3), `@0 schedule 0 0 "" nil`},
		{full(2), `@4611686018427387903 cancel-timer 9223372036854775807`},
		{api.Command{Kind: api.Fail, Name: "trap \"\xff\""}, `@0 fail "trap \"\xff\""`},
	} {
		if got := Print(x.c); got != x.want {
			t.Errorf("Print: %s, want %s", got, x.want)
		}
	}
}

// P2: what is handed in isn't changed, and what Event answers is memory of its own.
func TestEventMemory(t *testing.T) {
	values := []api.Value{list(num(1)), num(2), num(7)}
	c := api.Command{Kind: api.Complete, Value: list()}
	c.Value.List = values[:2]
	one, two := Event(c), Event(c)
	one.Value.List[0].List[0].N = 99
	one.Value.List[1].N = 98
	_ = append(one.Value.List, num(97))
	want := list(list(num(1)), num(2))
	if !value.Same(c.Value, want) || values[2].N != 7 || !value.Same(two.Value, want) {
		t.Error("an answer shares memory")
	}
	if !Fits(c, two) || !Same(c, c) || Check(c) != api.OK || !value.Same(c.Value, want) {
		t.Error("what was handed in is changed")
	}
}

// P1: whatever the command, each call ends, and answers the same once more.
func TestAnyCommand(t *testing.T) {
	numbers := []int64{0, 1, -1, math.MinInt64, math.MaxInt64, lastTick + 1, 300}
	texts := []string{"", "x", "\xff\"\\", strings.Repeat("y", 5000)}
	values := []api.Value{{}, num(1), {Kind: 77, N: 3}, {Kind: math.MinInt}, endless(), nested(20), list(make([]api.Value, 300)...)}
	for i := range 4000 {
		c := api.Command{Kind: i%11 - 2, Time: numbers[i/2%7], A: numbers[i/3%7], B: numbers[i/5%7], Name: texts[i/7%4], Value: values[i/13%7]}
		e := Event(c)
		Fits(c, e)
		if Print(c) != Print(c) || !Same(c, c) || !event.Same(e, Event(c)) || Made(e) != (1 <= c.Kind && c.Kind <= 6) {
			t.Fatalf("%+v", c)
		}
		b, err := Encode(c)
		if err != Check(c) || err != All(c) {
			t.Fatalf("%+v: %v", c, err)
		}
		if err != api.OK {
			continue
		}
		got, err := Decode(b)
		if err != api.OK || len(got) != 1 || !Same(got[0], c) || !reflect.DeepEqual(got[0].Value, value.Clone(c.Value)) || !Fits(c, e) {
			t.Fatalf("%s: %v", Print(c), err)
		}
	}
}
