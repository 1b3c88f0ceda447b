package history

import (
	"crypto/sha256"
	"math"
	"reflect"
	"slices"
	"strings"
	"testing"

	"foliot/api"
	"foliot/event"
	"foliot/value"
)

var seed = api.Sum{1, 2, 3, 31: 9}

// lastTick is the last one that may be.
const lastTick = 1<<62 - 1

func started(time int64) api.Event { return api.Event{Time: time, Kind: api.RunStarted, Name: "p"} }

func signal(time int64) api.Event {
	return api.Event{Time: time, Kind: api.SignalReceived, Name: "go"}
}

func scheduled(time int64) api.Event { return api.Event{Time: time, Kind: api.TaskScheduled, B: 1} }

func completed(time int64) api.Event { return api.Event{Time: time, Kind: api.RunCompleted} }

// numbered: events with the numbers from first on.
func numbered(first int, list ...api.Event) []api.Event {
	list = slices.Clone(list)
	for i := range list {
		list[i].ID = first + i
	}
	return list
}

// mustNew: a history with these events.
func mustNew(t testing.TB, list ...api.Event) *History {
	t.Helper()
	h := New(seed)
	mustAppend(t, h, list...)
	return h
}

func mustAppend(t testing.TB, h *History, list ...api.Event) {
	t.Helper()
	first := h.Len() + 1
	got, code := h.Append(list...)
	if want := numbered(first, list...); code != api.OK || !same(got, want) {
		t.Fatalf("Append(%+v): %+v, %v", list, got, code)
	}
}

// same: are two lists the same, field by field? One that is empty may be none.
func same(a, b []api.Event) bool { return len(a) == 0 && len(b) == 0 || reflect.DeepEqual(a, b) }

// sums: of a chain, that behind no event first, as the document's words have it.
func sums(t testing.TB, seed api.Sum, list ...api.Event) []api.Sum {
	t.Helper()
	all := []api.Sum{seed}
	for _, e := range list {
		b, code := event.Encode(e)
		if code != api.OK {
			t.Fatalf("Encode(%+v): %v", e, code)
		}
		prev := all[len(all)-1]
		all = append(all, sha256.Sum256(append(prev[:], b...)))
	}
	return all
}

// wantHistory: a history has these events, with their numbers; all calls that tell of it say so.
func wantHistory(t testing.TB, h *History, want ...api.Event) {
	t.Helper()
	n := len(want)
	if h.Len() != n || !same(h.All(), want) {
		t.Fatalf("Len, All: %d, %+v, want %+v", h.Len(), h.All(), want)
	}
	chain := sums(t, h.Seed(), want...)
	for i, s := range chain {
		if got, code := h.At(i); got != s || code != api.OK {
			t.Fatalf("At(%d): %x, %v, want %x", i, got, code, s)
		}
	}
	if h.Sum() != chain[n] {
		t.Fatalf("Sum: %x, want %x", h.Sum(), chain[n])
	}
	if closed := n > 0 && event.Closes(want[n-1]); h.Closed() != closed {
		t.Fatalf("Closed: %v", h.Closed())
	}
	for i, e := range want {
		if got, code := h.Get(i + 1); !reflect.DeepEqual(got, e) || code != api.OK {
			t.Fatalf("Get(%d): %+v, %v, want %+v", i+1, got, code, e)
		}
	}
	for _, i := range []int{math.MinInt, -1, n + 1, math.MaxInt} {
		if got, code := h.At(i); got != (api.Sum{}) || code != api.ErrRange {
			t.Fatalf("At(%d): %x, %v", i, got, code)
		}
		if got, code := h.Get(i); !reflect.DeepEqual(got, api.Event{}) || code != api.ErrMissing {
			t.Fatalf("Get(%d): %+v, %v", i, got, code)
		}
	}
	if _, code := h.Get(0); code != api.ErrMissing {
		t.Fatalf("Get(0): %v", code)
	}
	if code := Verify(h.Seed(), h.Sum(), h.All()...); code != api.OK {
		t.Fatalf("Verify: %v", code)
	}
}

// wantRefused: events may not follow; nothing changes by that.
func wantRefused(t testing.TB, h *History, want api.Errno, list ...api.Event) {
	t.Helper()
	ahead := h.All()
	if code := h.Check(list...); code != want {
		t.Errorf("Check(%+v): %v, want %v", list, code, want)
	}
	if got, code := h.Append(list...); code != want || got != nil {
		t.Errorf("Append(%+v): %+v, %v, want %v", list, got, code, want)
	}
	wantHistory(t, h, ahead...)
}

func TestLimits(t *testing.T) {
	if MaxEvents != 4096 || MaxPage != 256 {
		t.Errorf("MaxEvents, MaxPage: %d, %d", MaxEvents, MaxPage)
	}
}

// P18.1.
func TestSeed(t *testing.T) {
	long := strings.Repeat("n", 5000)
	for _, x := range []struct {
		name  string
		run   int
		bytes string
	}{
		{"", 0, "\x00\x00"},
		{"w", 1, "\x01w\x01"},
		{"w", 127, "\x01w\x7f"},
		{"w", 128, "\x01w\x80\x01"},
		{"w", 300, "\x01w\xac\x02"},
		{"w", -1, "\x01w\x00"},
		{"w", math.MinInt, "\x01w\x00"},
		{"w", math.MaxInt, "\x01w\xff\xff\xff\xff\xff\xff\xff\xff\x7f"},
		{"\xff\x00", 5, "\x02\xff\x00\x05"},
		{long, 5, "\x88\x27" + long + "\x05"},
	} {
		if got := Seed(x.name, x.run); got != sha256.Sum256([]byte(x.bytes)) {
			t.Errorf("Seed(%.20q, %d): %x", x.name, x.run, got)
		}
	}
}

// P18.1.
func TestNew(t *testing.T) {
	for _, s := range []api.Sum{{}, seed} {
		h := New(s)
		if h.Seed() != s || h.Sum() != s || h.Len() != 0 || h.Closed() {
			t.Errorf("New(%x): %x, %x, %d, %v", s, h.Seed(), h.Sum(), h.Len(), h.Closed())
		}
		wantHistory(t, h)
		mustAppend(t, h, started(3), signal(4))
		if h.Seed() != s {
			t.Errorf("Seed: %x, want %x", h.Seed(), s)
		}
		wantHistory(t, h, numbered(1, started(3), signal(4))...)
	}
}

// P18.1: by each kind of event as the last one.
func TestClosed(t *testing.T) {
	for kind := api.RunStarted + 1; kind <= api.ContinuedAsNew; kind++ {
		h := mustNew(t, started(3), api.Event{Time: 4, Kind: kind})
		if want := kind >= api.RunCompleted; h.Closed() != want {
			t.Errorf("Closed behind a %s: %v", event.Name(kind), h.Closed())
		}
	}
	if mustNew(t, started(3)).Closed() {
		t.Error("Closed behind a run-started")
	}
}

// P18.2: events with a number and without one, one by one and together.
func TestAppend(t *testing.T) {
	list := []api.Event{started(3), scheduled(1), signal(3), {Time: 9, Kind: api.TimerStarted, A: 1, B: 2}, completed(0)}
	want := numbered(1, list...)
	wantHistory(t, mustNew(t, list...), want...)
	wantHistory(t, mustNew(t, want...), want...)
	h := New(seed)
	for i, e := range list {
		if i%2 == 1 {
			e.ID = i + 1
		}
		mustAppend(t, h, e)
		wantHistory(t, h, want[:i+1]...)
	}
	h = mustNew(t, list[:2]...)
	mustAppend(t, h)
	mustAppend(t, h, list[2:]...)
	wantHistory(t, h, want...)
	if code := h.Check(); code != api.OK {
		t.Errorf("Check of none: %v", code)
	}
}

// P18.2: Check adds nothing, and tells what Append would.
func TestCheck(t *testing.T) {
	h := mustNew(t, started(3))
	for range 3 {
		if code := h.Check(signal(4), completed(5)); code != api.OK {
			t.Errorf("Check: %v", code)
		}
		wantHistory(t, h, numbered(1, started(3))...)
	}
	mustAppend(t, h, signal(4), completed(5))
}

// P18.2: each error, and the order in which they are answered.
func TestAppendErrors(t *testing.T) {
	id := func(n int, e api.Event) api.Event { e.ID = n; return e }
	none, open, closed := mustNew(t), mustNew(t, started(3), signal(5)), mustNew(t, started(3), completed(5))
	for _, x := range []struct {
		what string
		h    *History
		e    api.Event
		want api.Errno
	}{
		{"the number of the last one", open, id(2, signal(5)), api.ErrChain},
		{"the number behind the next one", open, id(4, signal(5)), api.ErrChain},
		{"a number below 0", open, id(-1, signal(5)), api.ErrChain},
		{"a great number", open, id(math.MaxInt, signal(5)), api.ErrChain},
		{"a small number", open, id(math.MinInt, signal(5)), api.ErrChain},
		{"a number of none", none, id(2, started(5)), api.ErrChain},
		{"a number that may not be, of no kind", open, id(1<<20+1, api.Event{Kind: 22}), api.ErrChain},
		{"a number behind the end", closed, id(2, signal(5)), api.ErrChain},
		{"the number 1 anew", open, id(1, started(5)), api.ErrChain},

		{"no kind", open, api.Event{}, api.ErrKind},
		{"kind 22", open, api.Event{Kind: 22}, api.ErrKind},
		{"no kind, first", none, api.Event{}, api.ErrKind},
		{"no kind, behind the end", closed, api.Event{Kind: -1}, api.ErrKind},
		{"a time below 0", open, signal(-1), api.ErrRange},
		{"a time beyond the last one", open, scheduled(lastTick + 1), api.ErrRange},
		{"a time below 0 behind the end", closed, signal(-1), api.ErrRange},
		{"a time below 0, first", none, signal(-1), api.ErrRange},
		{"A of a kind that has none", open, api.Event{Time: 5, Kind: api.SignalReceived, A: 1}, api.ErrRange},
		{"a long name", open, api.Event{Time: 5, Kind: api.SignalReceived, Name: strings.Repeat("n", 65)}, api.ErrLong},
		{"a long name behind the end", closed, api.Event{Kind: api.SignalReceived, Name: strings.Repeat("n", 65)}, api.ErrLong},
		{"a text of a kind that has none", open, api.Event{Time: 5, Kind: api.SignalReceived, Text: "x"}, api.ErrForm},
		{"a value of no kind", open, api.Event{Time: 5, Kind: api.SignalReceived, Value: api.Value{Kind: 4}}, api.ErrKind},
		{"a text first that is too long", none, api.Event{Kind: api.RunStarted, Text: strings.Repeat("n", 129)}, api.ErrLong},

		{"behind the end", closed, signal(5), api.ErrClosed},
		{"a task behind the end", closed, scheduled(5), api.ErrClosed},
		{"a run-started behind the end", closed, started(5), api.ErrClosed},
		{"an end behind the end", closed, completed(5), api.ErrClosed},
		{"early behind the end", closed, signal(0), api.ErrClosed},

		{"another one first", none, signal(5), api.ErrState},
		{"an end first", none, completed(5), api.ErrState},
		{"a run-started not first", open, started(5), api.ErrState},
		{"an early run-started not first", open, started(0), api.ErrState},

		{"early", open, signal(4), api.ErrRange},
		{"very early", open, signal(0), api.ErrRange},
	} {
		t.Run(x.what, func(t *testing.T) {
			wantRefused(t, x.h, x.want, x.e)
			wantRefused(t, x.h, x.want, x.e, signal(-1), api.Event{})
		})
	}
}

// P18.2: of a list that is wrong at its end nothing is added; each is held against those ahead of it in the list, too.
func TestAppendAllOrNone(t *testing.T) {
	h := New(seed)
	for _, x := range []struct {
		want api.Errno
		list []api.Event
	}{
		{api.ErrChain, []api.Event{started(3), {ID: 1, Time: 3, Kind: api.SignalReceived}}},
		{api.ErrChain, []api.Event{started(3), signal(4), {ID: 4, Time: 3, Kind: api.SignalReceived}}},
		{api.ErrKind, []api.Event{started(3), signal(4), {}}},
		{api.ErrClosed, []api.Event{started(3), completed(4), signal(4)}},
		{api.ErrState, []api.Event{started(3), started(3)}},
		{api.ErrRange, []api.Event{started(3), signal(2)}},
		{api.ErrRange, []api.Event{started(3), signal(9), scheduled(2), signal(8)}},
	} {
		wantRefused(t, h, x.want, x.list...)
	}
	mustAppend(t, h, started(3))
	wantRefused(t, h, api.ErrRange, signal(9), scheduled(2), signal(8))
	wantRefused(t, h, api.ErrClosed, completed(9), signal(9))
	wantRefused(t, h, api.ErrRange, signal(2), api.Event{})
	wantRefused(t, h, api.ErrKind, signal(3), api.Event{}, signal(2))
	mustAppend(t, h, signal(3))
}

// P18.2: the ticks of what comes from outside don't fall; of others they may.
func TestTimes(t *testing.T) {
	for kind := api.RunStarted + 1; kind <= api.ContinuedAsNew; kind++ {
		e := api.Event{Kind: kind}
		outside := event.Outside(e)
		for _, time := range []int64{0, 6, 7, 8, lastTick} {
			h := mustNew(t, started(3), signal(7), scheduled(2))
			e.Time = time
			if outside && time < 7 {
				wantRefused(t, h, api.ErrRange, e)
				continue
			}
			mustAppend(t, h, e)
			if event.Closes(e) {
				continue
			}
			least := int64(7)
			if outside {
				least = time
			}
			wantRefused(t, h, api.ErrRange, signal(least-1))
			mustAppend(t, h, signal(least))
		}
	}
	h := mustNew(t, started(3))
	wantRefused(t, h, api.ErrRange, signal(2))
	mustAppend(t, h, scheduled(0), completed(0))
	mustAppend(t, mustNew(t, started(lastTick)), signal(lastTick))
	mustAppend(t, mustNew(t, started(0)), signal(0))
}

// whole: a history that has no room left.
func whole(t testing.TB) *History {
	h := mustNew(t, started(3))
	for range 4095 {
		mustAppend(t, h, scheduled(1))
	}
	return h
}

// P18.2: the 4096th event, and the 4097th.
func TestFull(t *testing.T) {
	h := whole(t)
	wantRefused(t, h, api.ErrFull, signal(5))
	wantRefused(t, h, api.ErrFull, api.Event{ID: 4097, Kind: 22})
	wantRefused(t, h, api.ErrFull, api.Event{ID: 1, Time: -1})
	mustAppend(t, h)
	if code := h.Cut(4094); code != api.OK {
		t.Fatalf("Cut: %v", code)
	}
	wantRefused(t, h, api.ErrFull, signal(5), scheduled(1), signal(5))
	wantRefused(t, h, api.ErrFull, signal(5), completed(5), signal(5))
	wantRefused(t, h, api.ErrKind, signal(5), api.Event{}, signal(5))
	mustAppend(t, h, signal(5), completed(5))
	wantRefused(t, h, api.ErrFull, signal(5))
	if h.Len() != 4096 || !h.Closed() {
		t.Errorf("Len, Closed: %d, %v", h.Len(), h.Closed())
	}
}

// P18.2: behind a Cut all is as if the others had never been.
func TestCut(t *testing.T) {
	list := numbered(1, started(3), signal(4), scheduled(9), signal(8), signal(20), completed(1))
	for n := range len(list) + 1 {
		h := mustNew(t, list...)
		for _, wrong := range []int{math.MinInt, -1, 7, math.MaxInt} {
			if code := h.Cut(wrong); code != api.ErrRange {
				t.Errorf("Cut(%d): %v", wrong, code)
			}
		}
		wantHistory(t, h, list...)
		if code := h.Cut(n); code != api.OK {
			t.Fatalf("Cut(%d): %v", n, code)
		}
		wantHistory(t, h, list[:n]...)
		for _, e := range []api.Event{started(3), signal(2), signal(4), signal(7), signal(19), signal(20), scheduled(0), completed(0)} {
			fresh := mustNew(t, list[:n]...)
			want, code := fresh.Append(e, scheduled(0))
			got, other := h.Append(e, scheduled(0))
			if other != code || !same(got, want) || h.Sum() != fresh.Sum() {
				t.Errorf("cut behind %d, Append(%+v): %+v, %v, want %+v, %v", n, e, got, other, want, code)
			}
			if code := h.Cut(n); code != api.OK {
				t.Fatalf("Cut(%d): %v", n, code)
			}
			wantHistory(t, h, list[:n]...)
		}
		mustAppend(t, h, list[n:]...)
		wantHistory(t, h, list...)
	}
}

// P18.3.
func TestVerify(t *testing.T) {
	list := numbered(1, started(3), signal(4), completed(5))
	chain := sums(t, seed, list...)
	for n := range 4 {
		for m, last := range chain {
			want := api.ErrSum
			if m == n {
				want = api.OK
			}
			if code := Verify(seed, last, list[:n]...); code != want {
				t.Errorf("Verify of %d, to the sum behind %d: %v", n, m, code)
			}
		}
		if code := Verify(api.Sum{}, chain[n], list[:n]...); code != api.ErrSum {
			t.Errorf("Verify from another seed: %v", code)
		}
	}
	for at := range 32 {
		wrong := chain[3]
		wrong[at] ^= 1
		if code := Verify(seed, wrong, list...); code != api.ErrSum {
			t.Errorf("Verify to a sum that is another one at %d: %v", at, code)
		}
	}
}

// P18.3: each error, and the order in which they are answered.
func TestVerifyErrors(t *testing.T) {
	alter := func(i int, f func(e *api.Event)) []api.Event {
		list := numbered(1, started(3), signal(4), completed(5))
		f(&list[i])
		return list
	}
	chain := sums(t, seed, numbered(1, started(3), signal(4), completed(5))...)
	for _, x := range []struct {
		want api.Errno
		list []api.Event
	}{
		{api.ErrChain, alter(0, func(e *api.Event) { e.ID = 0 })},
		{api.ErrChain, alter(1, func(e *api.Event) { e.ID = 3 })},
		{api.ErrChain, alter(2, func(e *api.Event) { e.ID = 2 })},
		{api.ErrChain, alter(1, func(e *api.Event) { *e = api.Event{ID: -1} })},
		{api.ErrKind, alter(1, func(e *api.Event) { e.Kind = 0 })},
		{api.ErrKind, alter(1, func(e *api.Event) { *e = api.Event{ID: 2, Kind: 22, Time: -1} })},
		{api.ErrRange, alter(1, func(e *api.Event) { e.Time = -1 })},
		{api.ErrLong, alter(1, func(e *api.Event) { e.Name = strings.Repeat("n", 65) })},
		{api.ErrForm, alter(1, func(e *api.Event) { e.Text = "x" })},
		{api.ErrSum, alter(1, func(e *api.Event) { e.Time = 5 })},
		{api.ErrSum, alter(0, func(e *api.Event) { e.Name = "q" })},
		{api.ErrSum, alter(2, func(e *api.Event) { e.Value = value.Of(0) })},
		{api.ErrKind, append(alter(1, func(e *api.Event) { e.Kind = 0 }), api.Event{})},
		{api.ErrChain, append(alter(1, func(e *api.Event) { e.ID = 0 }), api.Event{ID: 4})},
		{api.ErrSum, numbered(1, signal(4), started(3))}, // it asks for no more than the chain
	} {
		if code := Verify(seed, chain[3], x.list...); code != x.want {
			t.Errorf("Verify(%+v): %v, want %v", x.list, code, x.want)
		}
	}
	odd := numbered(1, completed(4), signal(3), started(0))
	if code := Verify(seed, sums(t, seed, odd...)[3], odd...); code != api.OK {
		t.Errorf("Verify of what no history has: %v", code)
	}
}

// P18.4: each page of a short history.
func TestPage(t *testing.T) {
	list := numbered(1, started(3), signal(4), scheduled(4), signal(5), completed(6))
	for n := range len(list) + 1 {
		h := mustNew(t, list[:n]...)
		for from := -2; from <= n+3; from++ {
			for most := -2; most <= n+2; most++ {
				got, code := h.Page(from, most)
				if from < 1 || from > n+1 || most < 0 {
					if code != api.ErrRange || got != nil {
						t.Errorf("of %d, Page(%d, %d): %+v, %v", n, from, most, got, code)
					}
					continue
				}
				want := list[from-1 : min(from-1+most, n)]
				if code != api.OK || !same(got, want) {
					t.Errorf("of %d, Page(%d, %d): %+v, %v", n, from, most, got, code)
				}
			}
		}
		for _, x := range []struct {
			from, most int
			want       api.Errno
		}{{1, math.MaxInt, api.OK}, {n + 1, math.MaxInt, api.OK}, {math.MaxInt, math.MaxInt, api.ErrRange}, {math.MinInt, 1, api.ErrRange}, {1, math.MinInt, api.ErrRange}} {
			if _, code := h.Page(x.from, x.most); code != x.want {
				t.Errorf("of %d, Page(%d, %d): %v", n, x.from, x.most, code)
			}
		}
	}
}

// P18.4: no page has more than 256 events.
func TestMaxPage(t *testing.T) {
	h := whole(t)
	all := h.All()
	for _, x := range []struct{ from, most, want int }{
		{1, 255, 255}, {1, 256, 256}, {1, 257, 256}, {1, math.MaxInt, 256}, {1, 0, 0}, {1, 1, 1},
		{3841, 256, 256}, {3841, 257, 256}, {3842, 256, 255}, {3842, 257, 255}, {4096, 256, 1}, {4097, 256, 0}, {1000, 5000, 256},
	} {
		got, code := h.Page(x.from, x.most)
		if code != api.OK || !same(got, all[x.from-1:x.from-1+x.want]) {
			t.Errorf("Page(%d, %d): %d events, %v, want %d", x.from, x.most, len(got), code, x.want)
		}
	}
	if _, code := h.Page(4098, 0); code != api.ErrRange {
		t.Errorf("Page(4098, 0): %v", code)
	}
}

// spoil alters all that a list has, its spare room too.
func spoil(list []api.Event) {
	list = list[:cap(list)]
	for i := range list {
		for j := range list[i].Value.List[:cap(list[i].Value.List)] {
			list[i].Value.List[:cap(list[i].Value.List)][j] = value.Of(99)
		}
		list[i] = api.Event{ID: 77}
	}
}

// P2: what is handed in is neither changed nor kept, what is answered is nobody else's.
func TestMemory(t *testing.T) {
	make3 := func() []api.Event {
		return []api.Event{
			started(3),
			{Time: 4, Kind: api.SignalReceived, Name: "go", Value: value.List(value.Of(5), value.List(value.Text("a")))},
			{Time: 5, Kind: api.RunCompleted, Value: value.List(value.Of(6))},
			{Kind: 77},
		}
	}
	want := numbered(1, make3()[:3]...)
	list := make3()
	h := New(seed)
	h.Check(list[:3]...)
	got, _ := h.Append(list[:3]...)
	if !reflect.DeepEqual(list, make3()) {
		t.Errorf("what was handed in is changed: %+v", list)
	}
	spoil(list)
	wantHistory(t, h, want...)
	spoil(got)
	wantHistory(t, h, want...)
	spoil(h.All())
	page, _ := h.Page(1, 2)
	spoil(page)
	e, _ := h.Get(2)
	e.Value.List[1].List[0] = value.Of(7)
	spoil([]api.Event{e})
	wantHistory(t, h, want...)
	a, b := h.All(), h.All()
	spoil(a)
	if !reflect.DeepEqual(b, want) {
		t.Error("two answers share memory")
	}
	Verify(seed, h.Sum(), b...)
	if !reflect.DeepEqual(b, want) {
		t.Error("Verify has changed what was handed in")
	}
}

// P2: fields of a value that don't count aren't answered.
func TestNoMeaning(t *testing.T) {
	odd := api.Value{Kind: api.Int, N: 5, S: "x", List: []api.Value{{}}}
	h := New(seed)
	e := started(3)
	e.Value = odd
	none := scheduled(4)
	none.Value = api.Value{N: 7, S: "y"}
	got, code := h.Append(e, none)
	e.Value, none.Value = value.Of(5), api.Value{}
	if want := numbered(1, e, none); code != api.OK || !same(got, want) {
		t.Errorf("Append: %+v, %v", got, code)
	}
	wantHistory(t, h, numbered(1, e, none)...)
}
