package run

import (
	"math"
	"math/rand"
	"reflect"
	"slices"
	"testing"

	"foliot/api"
	"foliot/command"
	"foliot/event"
	"foliot/value"
)

// told is a run as layer 23's words tell of it: its history, looked through from end to end.
type told []api.Event

func isOutside(e api.Event) bool {
	return slices.Contains([]int{1, 8, 9, 10, 12, 14, 15, 19, 20}, e.Kind)
}

// last: the number of the last event of one of these kinds; 0: there is none.
func (h told) last(kinds ...int) int {
	for i := len(h); i > 0; i-- {
		if slices.Contains(kinds, h[i-1].Kind) {
			return i
		}
	}
	return 0
}

// of: the event of a number; the zero one, if there is none.
func (h told) of(id int) api.Event {
	if id == 0 {
		return api.Event{}
	}
	return h[id-1]
}

func (h told) count(kind int) int {
	n := 0
	for _, e := range h {
		if e.Kind == kind {
			n++
		}
	}
	return n
}

func (h told) closed() bool { return len(h) > 0 && h[len(h)-1].Kind >= 16 }

// tick: that of the last event that came from outside.
func (h told) tick() int64 {
	for _, e := range slices.Backward(h) {
		if isOutside(e) {
			return e.Time
		}
	}
	return 0
}

// task: its state (0 to 2), which try it is, and who has it.
func (h told) task() (int, int64, int64) {
	switch h.of(h.last(2, 3, 4, 5, 6)).Kind {
	case 2:
		return 1, h.of(h.last(2)).B, 0
	case 3:
		return 2, h.of(h.last(2)).B, h.of(h.last(3)).A
	}
	return 0, 0, 0
}

// saw: up to where the last task that was completed saw the history.
func (h told) saw() int {
	if c := h.last(4); c > 0 {
		return h[:c].last(3)
	}
	return 0
}

func (h told) seen() int {
	if state, _, _ := h.task(); state == 2 {
		return h.last(3)
	}
	return h.saw()
}

// open: the events of a kind behind which none of these ends of their number stands.
func (h told) open(kind int, ends ...int) []api.Event {
	var list []api.Event
	for i, e := range h {
		ended := slices.ContainsFunc(h[i+1:], func(o api.Event) bool { return o.A == e.A && slices.Contains(ends, o.Kind) })
		if e.Kind == kind && !ended {
			list = append(list, e)
		}
	}
	slices.SortFunc(list, func(a, b api.Event) int { return int(a.A - b.A) })
	return list
}

func (h told) timers() []api.Event { return h.open(11, 12, 13) }

func (h told) activities() []api.Event { return h.open(7, 8, 9, 10) }

func (h told) unseen() bool {
	if len(h) == 0 || h.closed() {
		return false
	}
	return h.of(h.last(4)).B > 0 || slices.ContainsFunc(h[h.saw():], isOutside)
}

func (h told) settled() bool {
	state, _, _ := h.task()
	return h.closed() || state == 0 && !h.unseen()
}

// byNumber: the event among these whose number is this one.
func byNumber(list []api.Event, id int64) (api.Event, bool) {
	for _, e := range list {
		if e.A == id {
			return e, true
		}
	}
	return api.Event{}, false
}

// check: the words of P23.2.
func (h told) check(e api.Event) api.Errno {
	if e.ID != 0 && e.ID != len(h)+1 {
		return api.ErrChain
	}
	e.ID = len(h) + 1
	if code := event.Check(e); code != api.OK {
		return code
	}
	switch {
	case h.closed():
		return api.ErrClosed
	case len(h) == 0 && e.Kind != 1, len(h) > 0 && e.Kind == 1:
		return api.ErrState
	case isOutside(e) && e.Time < h.tick():
		return api.ErrRange
	}
	state, _, _ := h.task()
	needs := map[int]int{2: 0, 3: 1, 4: 2, 5: 2, 6: 2}
	if want, ok := needs[e.Kind]; ok && state != want {
		return api.ErrState
	}
	timer, runs := byNumber(h.timers(), e.A)
	_, done := byNumber(h.activities(), e.A)
	switch e.Kind {
	case 7, 11:
		number := h.of(h.last(e.Kind)).A
		switch {
		case e.A <= number:
			return api.ErrTwice
		case e.A != number+1:
			return api.ErrRange
		case len(h.timers())+len(h.activities()) >= 256:
			return api.ErrFull
		}
	case 12, 13:
		if !runs {
			return api.ErrMissing
		}
		if e.Kind == 12 && e.Time < timer.B {
			return api.ErrRange
		}
	case 8, 9, 10:
		if !done {
			return api.ErrMissing
		}
	case 14:
		if h.count(14) >= 256 {
			return api.ErrFull
		}
	}
	return api.OK
}

// write: the words of P23.5.
func (h told) write(list ...api.Event) ([]api.Event, api.Errno) {
	g := slices.Clone(h)
	follow := func(e api.Event) api.Errno {
		code := g.check(e)
		e.ID = len(g) + 1
		g = append(g, e)
		return code
	}
	for _, e := range list {
		if code := follow(e); code != api.OK {
			return nil, code
		}
	}
	if state, _, _ := g.task(); state == 0 && g.unseen() {
		if code := follow(api.Event{Time: g.tick(), Kind: 2, B: 1}); code != api.OK {
			return nil, code
		}
	}
	return g[len(h):], api.OK
}

// The words of P23.6 and P23.7.
func (h told) outside(e api.Event) ([]api.Event, api.Errno) {
	if !isOutside(e) {
		return nil, api.ErrKind
	}
	return h.write(e)
}

func (h told) start(worker int64) ([]api.Event, api.Errno) {
	return h.write(api.Event{Time: h.tick(), Kind: 3, A: max(0, worker), B: h.of(h.last(2)).B})
}

func (h told) retry(why string) ([]api.Event, api.Errno) {
	b := h.of(h.last(2)).B
	e := api.Event{Time: h.tick(), Kind: 5, B: b}
	if why != "" {
		e.Kind, e.Name = 6, why
	}
	more := int64(1<<40 + 1)
	if b < more {
		more = b + 1
	}
	return h.write(e, api.Event{Time: h.tick(), Kind: 2, B: more})
}

func (h told) complete(next int64, more bool, list ...api.Command) ([]api.Event, api.Errno) {
	if code := command.All(list...); code != api.OK {
		return nil, code
	}
	b := int64(0)
	if more {
		b = 1
	}
	events := []api.Event{{Time: h.tick(), Kind: 4, A: int64(len(list)), B: b}}
	for _, c := range list {
		late := slices.ContainsFunc(h, func(e api.Event) bool { return e.Kind == 12 && e.A == c.A })
		if c.Kind == 2 && late {
			continue
		}
		e := command.Event(c)
		if e.Kind == 21 {
			e.B = max(0, next)
		}
		events = append(events, e)
	}
	return h.write(events...)
}

// wantState: all calls that tell of a run say what its history says.
func wantState(t testing.TB, s *State, h told) {
	t.Helper()
	type facts struct {
		len, signals, state, seen      int
		program, cron                  string
		closed, asked, unseen, settled bool
		attempt, worker                int64
	}
	state, attempt, worker := s.Task()
	got := facts{s.Len(), s.Signals(), state, s.Seen(), s.Program(), s.Cron(), s.Closed(), s.Asked(), s.Unseen(), s.Settled(), attempt, worker}
	state, attempt, worker = h.task()
	var first api.Event
	if len(h) > 0 {
		first = h[0]
	}
	want := facts{len(h), h.count(14), state, h.seen(), first.Name, first.Text, h.closed(), h.count(15) > 0, h.unseen(), h.settled(), attempt, worker}
	if got != want {
		t.Fatalf("%+v, want %+v, of %s", got, want, printed(h))
	}
	wantOpen(t, s, h)
}

// wantOpen: what is open is what its history says.
func wantOpen(t testing.TB, s *State, h told) {
	t.Helper()
	var timers []int64
	for _, e := range h.timers() {
		timers = append(timers, e.A)
		if due, ok := s.Due(e.A); due != e.B || !ok {
			t.Fatalf("Due(%d): %d, %v, want %d", e.A, due, ok, e.B)
		}
	}
	if got := s.Timers(); !slices.Equal(got, timers) {
		t.Fatalf("Timers: %v, want %v", got, timers)
	}
	var activities []Activity
	for _, e := range h.activities() {
		a := Activity{e.A, e.Name, e.B, e.Value, e.Time}
		activities = append(activities, a)
		if got, ok := s.Activity(e.A); !reflect.DeepEqual(got, a) || !ok {
			t.Fatalf("Activity(%d): %+v, %v, want %+v", e.A, got, ok, a)
		}
	}
	if got := s.Activities(); len(got)+len(activities) > 0 && !reflect.DeepEqual(got, activities) {
		t.Fatalf("Activities: %+v, want %+v", got, activities)
	}
	for _, id := range []int64{math.MinInt64, -1, 0, 1, 2, 3, 5, 300, math.MaxInt64} {
		if due, ok := s.Due(id); !ok && due != 0 || ok != slices.Contains(timers, id) {
			t.Fatalf("Due(%d): %d, %v", id, due, ok)
		}
		is := func(a Activity) bool { return a.ID == id }
		if a, ok := s.Activity(id); !ok && !reflect.DeepEqual(a, Activity{}) || ok != slices.ContainsFunc(activities, is) {
			t.Fatalf("Activity(%d): %+v, %v", id, a, ok)
		}
	}
}

// both is a State, and what is told of it; each call is held against the words.
type both struct {
	t     *testing.T
	state *State
	told  told
	codes map[api.Errno]int // how often each was answered
	late  int               // how many commands of tasks that were completed came too late
}

// apply: an event, held against the words.
func (b *both) apply(e api.Event) {
	b.t.Helper()
	want := b.told.check(e)
	if got := b.state.Check(e); got != want {
		b.t.Fatalf("Check(%+v): %v, want %v, behind %s", e, got, want, printed(b.told))
	}
	if got := b.state.Apply(e); got != want {
		b.t.Fatalf("Apply(%+v): %v, want %v, behind %s", e, got, want, printed(b.told))
	}
	b.codes[want]++
	if want == api.OK {
		e.ID = len(b.told) + 1
		b.told = append(b.told, e)
	}
	wantState(b.t, b.state, b.told)
}

// hold: what a call answered against what it was to; then it is written, if it may be.
func (b *both) hold(what string, got []api.Event, code api.Errno, want []api.Event, wantCode api.Errno) {
	b.t.Helper()
	if code != wantCode || len(got) != len(want) || code != api.OK && got != nil {
		b.t.Fatalf("%s: %+v, %v, want %+v, %v, behind %s", what, got, code, want, wantCode, printed(b.told))
	}
	for i := range got {
		if !reflect.DeepEqual(got[i], want[i]) {
			b.t.Fatalf("%s: %+v, want %+v, behind %s", what, got, want, printed(b.told))
		}
	}
	b.codes[code]++
	wantState(b.t, b.state, b.told)
	for _, e := range got {
		b.apply(e)
	}
}

// pick: one of these.
func pick[T any](r *rand.Rand, list ...T) T { return list[r.Intn(len(list))] }

// number: the next one of a timer or of an activity, or one that there was, or a wrong one.
func (b *both) number(r *rand.Rand, kind int) int64 {
	last := b.told.of(b.told.last(kind)).A
	switch r.Intn(20) {
	case 0:
		return pick(r, -1, 0, last+2, math.MaxInt64, last)
	case 1, 2, 3:
		return 1 + r.Int63n(last+1)
	}
	return last + 1
}

// ended: a number of a timer or of an activity that is to end.
func (b *both) ended(r *rand.Rand, kind int, open []api.Event) int64 {
	if len(open) > 0 && r.Intn(5) > 0 {
		return pick(r, open...).A
	}
	return b.number(r, kind)
}

func aValue(r *rand.Rand) api.Value {
	return pick(r, api.Value{}, value.Of(r.Int63n(9)), value.Text("x"), value.List(value.Of(1), value.List(value.Text("y"))))
}

// event: one by chance, most of which may follow at some time.
func (b *both) event(r *rand.Rand, kind int) api.Event {
	e := api.Event{Kind: kind, Time: b.told.tick() + pick[int64](r, 0, 0, 0, 1, 2, 5, -1), A: r.Int63n(5), B: r.Int63n(3)}
	switch kind {
	case 1:
		e.Name, e.Text, e.Value = "p", pick(r, "", "0 1 * * *"), aValue(r)
	case 2, 5, 6:
		e.A = 0
	case 7:
		e.A, e.Name, e.Value = b.number(r, 7), "pay", aValue(r)
	case 8, 9, 10:
		e.A, e.B = b.ended(r, 7, b.told.activities()), 0
	case 11:
		e.A, e.B = b.number(r, 11), e.Time+r.Int63n(4)
	case 12, 13:
		e.A, e.B = b.ended(r, 11, b.told.timers()), 0
	default:
		if kind > 13 {
			e.A, e.B = 0, 0
		}
	}
	if kind == 14 || kind == 8 || kind == 16 {
		e.Value = aValue(r)
	}
	switch r.Intn(60) {
	case 0:
		e.ID = len(b.told) + r.Intn(4) - 1
	case 1:
		e.Name = "name"
	case 2:
		e.B = -1
	}
	return e
}

// kind: of an event by chance; few of those that close.
func kind(r *rand.Rand) int {
	if r.Intn(20) > 0 {
		return 1 + r.Intn(15)
	}
	return r.Intn(24) - 1
}

// commands by chance, most of which may be; each timer and activity has its number, for the most part.
func (b *both) commands(r *rand.Rand) []api.Command {
	var list []api.Command
	timer, activity := b.number(r, 11), b.number(r, 7)
	for range r.Intn(5) {
		c := api.Command{Kind: 1 + r.Intn(3), Time: b.told.tick()}
		switch c.Kind {
		case api.StartTimer:
			c.A, c.B = timer, r.Int63n(6)
			timer++
		case api.CancelTimer:
			c.A = b.ended(r, 11, b.told.timers())
			if r.Intn(3) == 0 {
				c.A = 1 + r.Int63n(b.told.of(b.told.last(11)).A+1)
			}
		case api.Schedule:
			c.A, c.B, c.Name, c.Value = activity, r.Int63n(9), "ship", aValue(r)
			activity++
		}
		list = append(list, c)
	}
	if r.Intn(30) == 0 {
		i := r.Intn(len(list) + 1)
		list = append(list[:i], append([]api.Command{{Kind: r.Intn(8), Time: r.Int63n(50)}}, list[i:]...)...)
	}
	return list
}

// step: one call by chance.
func (b *both) step(r *rand.Rand) {
	b.t.Helper()
	n := r.Intn(8)
	if state, _, _ := b.told.task(); state == 2 && r.Intn(3) == 0 {
		n = 7
	}
	switch n {
	case 0, 1:
		b.apply(b.event(r, kind(r)))
	case 2, 3:
		e := b.event(r, kind(r))
		got, code := b.state.Outside(e)
		want, wantCode := b.told.outside(e)
		b.hold("Outside", got, code, want, wantCode)
	case 4, 5:
		worker := pick[int64](r, 1, 2, 0, -3, math.MinInt64, math.MaxInt64)
		got, code := b.state.Start(worker)
		want, wantCode := b.told.start(worker)
		b.hold("Start", got, code, want, wantCode)
	case 6:
		if why := pick(r, "", "bad"); r.Intn(3) == 0 {
			got, code := b.state.Retry(why)
			want, wantCode := b.told.retry(why)
			b.hold("Retry", got, code, want, wantCode)
		}
	default:
		next, more, list := pick[int64](r, 5, 0, -2, math.MinInt64, math.MaxInt64), r.Intn(4) == 0, b.commands(r)
		got, code := b.state.Complete(next, more, list...)
		want, wantCode := b.told.complete(next, more, list...)
		if code == api.OK {
			b.late += len(list) + 1 - len(slices.DeleteFunc(slices.Clone(got), func(e api.Event) bool { return e.Kind == 2 }))
		}
		b.hold("Complete", got, code, want, wantCode)
	}
}

// P1 and P23.1 to P23.7: steps by chance, against the document's words.
func TestSteps(t *testing.T) {
	r := rand.New(rand.NewSource(23))
	codes, late, closed := map[api.Errno]int{}, 0, 0
	for range 800 {
		b := &both{t: t, state: &State{}, codes: codes}
		wantState(t, b.state, b.told)
		if r.Intn(10) > 0 {
			b.apply(b.event(r, 1))
		}
		for range 150 {
			b.step(r)
		}
		late += b.late
		if b.state.Closed() {
			closed++
		}
		again, code := Of(b.told...)
		if code != api.OK || !reflect.DeepEqual(again, b.state) {
			t.Fatalf("Of what was applied: another state, %v, of %s", code, printed(b.told))
		}
	}
	for _, code := range []api.Errno{api.OK, api.ErrRange, api.ErrMissing, api.ErrTwice, api.ErrState, api.ErrForm, api.ErrKind, api.ErrChain, api.ErrClosed} {
		if codes[code] < 50 {
			t.Errorf("%v was answered %d times alone", code, codes[code])
		}
	}
	if late < 50 || closed < 200 || closed > 700 {
		t.Errorf("%d commands came too late, %d runs closed", late, closed)
	}
}
