package store

import (
	"math"
	"reflect"
	"slices"
	"strings"
	"testing"

	"foliot/api"
	"foliot/disk"
	"foliot/value"
	"foliot/wal"
)

// How many sectors a log of two segments has at least, and one of many.
const (
	twoSegs  = 2 + 2*16
	manySegs = 2 + 100*16
)

func started(time int64) api.Event { return api.Event{Time: time, Kind: api.RunStarted, Name: "p"} }

func signal(time int64) api.Event {
	return api.Event{Time: time, Kind: api.SignalReceived, Name: "go"}
}

func ended(time int64) api.Event { return api.Event{Time: time, Kind: api.RunTimedOut} }

// begin, add, forget: changes.
func begin(name string, list ...api.Event) Change {
	return Change{Kind: Begin, Name: name, Events: list}
}

func add(run int, list ...api.Event) Change { return Change{Kind: Append, Run: run, Events: list} }

func forget(run int) Change { return Change{Kind: Delete, Run: run} }

func mustDisk(t testing.TB, sectors int) *disk.Disk {
	t.Helper()
	d, e := disk.New(sectors)
	if e != api.OK {
		t.Fatalf("disk.New(%d): %v", sectors, e)
	}
	return d
}

func mustOpen(t testing.TB, d *disk.Disk) *Store {
	t.Helper()
	s, e := Open(d)
	if e != api.OK {
		t.Fatalf("Open: %v", e)
	}
	return s
}

// look is a store, its disk, and what it should tell.
type look struct {
	d *disk.Disk
	s *Store
	m told
}

func newLook(t testing.TB, sectors int, list ...Batch) *look {
	t.Helper()
	x := &look{d: mustDisk(t, sectors), m: nothing()}
	x.s = mustOpen(t, x.d)
	for _, b := range list {
		x.want(t, b)
	}
	return x
}

// write writes batches, and holds what becomes of them against the document's words, also when the store is opened anew.
func (x *look) write(t testing.TB, list ...Batch) outcome {
	t.Helper()
	batches, checkpoints := x.s.Batches(), x.s.Checkpoints()
	log := logOf(t, x.d)
	want := x.m.write(t, log, list...)
	codes, code := x.s.Write(list...)
	if code != want.code || len(codes) != len(list) || !slices.Equal(codes, want.codes) {
		t.Fatalf("Write(%+v): %v, %v, want %v, %v", list, codes, code, want.codes, want.code)
	}
	x.m = want.behind
	if got := x.s.Batches() - batches; got != int64(want.batches) {
		t.Fatalf("%d Batches more, want %d", got, want.batches)
	}
	if got := x.s.Checkpoints() - checkpoints; got != int64(want.checkpoints) {
		t.Fatalf("%d Checkpoints more, want %d", got, want.checkpoints)
	}
	if x.s.Left() != log.Left() {
		t.Fatalf("Left: %d, want %d", x.s.Left(), log.Left())
	}
	wantStore(t, x.s, x.m)
	wantStore(t, mustOpen(t, x.d.Clone()), x.m)
	return want
}

// want writes one batch, which may be answered so.
func (x *look) want(t testing.TB, b Batch, may ...api.Errno) {
	t.Helper()
	if o := x.write(t, b); o.codes[0] != api.OK && !slices.Contains(may, o.codes[0]) {
		t.Fatalf("Write(%+v): %v", b, o.codes)
	}
}

// wantRefused: a batch is answered so, and changes nothing.
func (x *look) wantRefused(t testing.TB, want api.Errno, b Batch) {
	t.Helper()
	left := x.s.Left()
	if codes, e := x.s.Write(b); e != api.OK || !slices.Equal(codes, []api.Errno{want}) {
		t.Errorf("Write(%+v): %v, %v, want %v", b, codes, e, want)
	}
	if x.s.Left() != left {
		t.Errorf("Left: %d, want %d", x.s.Left(), left)
	}
	wantStore(t, x.s, x.m)
	x.write(t, b)
}

// The chapter's example.
func TestExample(t *testing.T) {
	d := mustDisk(t, twoSegs)
	s := mustOpen(t, d)
	for _, b := range []Batch{{begin("w", started(3))}, {add(1, signal(4))}} {
		if codes, e := s.Write(b); e != api.OK || !slices.Equal(codes, []api.Errno{api.OK}) {
			t.Fatalf("Write: %v, %v", codes, e)
		}
	}
	for _, s := range []*Store{s, mustOpen(t, d)} {
		if i, e := s.Info(1); i != (Info{Run: 1, Name: "w", Place: 1, Len: 2}) || e != api.OK {
			t.Errorf("Info: %+v, %v", i, e)
		}
		if s.Find("w") != 1 || s.Next() != 2 || len(s.All(1)) != 2 {
			t.Errorf("Find, Next: %d, %d, %v", s.Find("w"), s.Next(), s.All(1))
		}
	}
}

func TestLimits(t *testing.T) {
	if MaxRuns != 256 || MaxChanges != 64 || MaxNumber != 1<<30 || Begin != 1 || Append != 2 || Delete != 3 {
		t.Error("the limits, or the kinds")
	}
}

// P19.1.
func TestOpenNew(t *testing.T) {
	x := newLook(t, twoSegs)
	wantStore(t, x.s, nothing())
	if x.s.Left() != 4096 || x.s.Batches() != 0 || x.s.Checkpoints() != 0 || x.d.Writes() != 0 {
		t.Errorf("Left, Batches, Checkpoints, Writes: %d, %d, %d, %d", x.s.Left(), x.s.Batches(), x.s.Checkpoints(), x.d.Writes())
	}
}

// P19.1: the log's errors.
func TestOpenErrors(t *testing.T) {
	for _, x := range []struct {
		what string
		want api.Errno
		f    func(d *disk.Disk)
	}{
		{"down", api.ErrDown, func(d *disk.Disk) { d.Crash(nil, 0, 0) }},
		{"another byte of the data", api.ErrSum, func(d *disk.Disk) { d.Spoil(2, 20, 1) }},
		{"another kind", api.ErrForm, func(d *disk.Disk) { d.Spoil(2, 8, 7) }},
	} {
		l := newLook(t, twoSegs, Batch{begin("w", started(3))})
		x.f(l.d)
		if s, e := Open(l.d); s != nil || e != x.want {
			t.Errorf("%s: %v, %v, want %v", x.what, s, e, x.want)
		}
	}
	if s, e := Open(mustDisk(t, twoSegs-1)); s != nil || e != api.ErrRange {
		t.Errorf("one segment: %v, %v", s, e)
	}
}

// P19.1, P1: what a log says that no store wrote is read to an end.
func TestOpenOthers(t *testing.T) {
	good := newLook(t, twoSegs, Batch{begin("w", started(3)), begin("v", started(4), ended(5))}, Batch{add(1, signal(4)), forget(2)})
	state := good.m.state()
	_, batch, _ := good.m.batch(Batch{begin("w", started(3))})
	huge := uvarint(uvarint(nil, 5), 1<<30)
	for _, b := range [][]byte{nil, {0}, {255}, state, batch, huge, uvarint(uvarint(nil, 1<<30), 0), []byte("\x01\x00\x81\x02"), []byte("\x01\x01\x00\x00\x80\x20")} {
		for at := range len(b) + 1 {
			for _, x := range []byte{0, 1, 127, 128, 255} {
				c := slices.Clone(b)
				if at < len(b) {
					c[at] ^= x
				}
				for _, checkpoint := range []bool{true, false} {
					d := mustDisk(t, twoSegs)
					log, _, _ := wal.Open(d)
					if checkpoint {
						log.Checkpoint(c)
					} else {
						log.Submit(c)
						log.Commit()
					}
					s, e := Open(d)
					if (s == nil) != (e != api.OK) {
						t.Fatalf("Open: %v, %v", s, e)
					}
					if s != nil {
						s.Write(Batch{begin("w", started(3))}, Batch{add(1, signal(5))}, Batch{forget(1)})
						s.Runs()
						s.Histories()
					}
				}
			}
		}
	}
}

// P19.2: an ordinary way of two workflows; the numbers that runs and events get.
func TestBatches(t *testing.T) {
	x := newLook(t, manySegs)
	x.want(t, Batch{begin("w", started(3))})
	x.want(t, Batch{begin("v", started(3), signal(4))})
	x.want(t, Batch{add(1, signal(5), signal(6)), add(2, signal(5))})
	x.want(t, Batch{add(1, ended(7)), begin("w", started(7))})
	x.want(t, Batch{})
	x.want(t, Batch{add(3)})
	x.want(t, Batch{{Kind: Begin, Run: 4, Name: "w", Events: []api.Event{{ID: 1, Time: 8, Kind: api.RunStarted}, {ID: 2, Time: 8, Kind: api.RunFailed, Name: "x"}}}})
	x.want(t, Batch{add(3, api.Event{ID: 2, Time: 9, Kind: api.SignalReceived})})
	x.want(t, Batch{forget(1)})
	x.want(t, Batch{forget(4), begin("w", started(9))})
	if x.m.next != 6 || x.s.Find("w") != 5 || x.s.Find("v") != 2 {
		t.Errorf("Next, Find: %d, %d, %d", x.m.next, x.s.Find("w"), x.s.Find("v"))
	}
	if i, _ := x.s.Info(5); i.Place != 4 {
		t.Errorf("Place: %d, want 4: two runs are forgotten, and one is there", i.Place)
	}
	x.want(t, Batch{add(2, ended(9)), forget(2)})
	x.want(t, Batch{begin("v", started(10), ended(11)), forget(6), begin("v", started(12))})
	if i, _ := x.s.Info(7); i.Place != 3 || i.Name != "v" {
		t.Errorf("Info: %+v", i)
	}
	if e := x.s.Checkpoint(); e != api.OK {
		t.Fatalf("Checkpoint: %v", e)
	}
	wantStore(t, mustOpen(t, x.d), x.m)
	x.want(t, Batch{begin("v", started(13)), begin("u", started(13))})
	x.want(t, Batch{begin("", started(13)), begin("\xff\x00", started(13))})
}

// P19.2: a chain begins with layer 18's Seed of the workflow's name and the run's number.
func TestChains(t *testing.T) {
	x := newLook(t, twoSegs, Batch{begin("w", started(3)), begin("w", started(3)), begin("v", started(3))})
	var sums []api.Sum
	for n := 1; n <= 3; n++ {
		s, _ := x.s.Sum(n)
		sums = append(sums, s)
	}
	if sums[0] == sums[1] || sums[1] == sums[2] || sums[0] == sums[2] {
		t.Errorf("three runs have one sum: %x", sums)
	}
}

// P19.2: each error, and the order in which they are answered.
func TestBatchErrors(t *testing.T) {
	x := newLook(t, manySegs, Batch{begin("w", started(3)), begin("w", started(3), ended(5)), begin("v", started(3), ended(5))}, Batch{forget(2)})
	long := strings.Repeat("n", 65)
	for _, y := range []struct {
		what string
		want api.Errno
		c    Change
	}{
		{"a long name", api.ErrLong, Change{Kind: Begin, Run: 1, Name: long}},
		{"a run that is there", api.ErrTwice, Change{Kind: Begin, Run: 1, Name: "w"}},
		{"a run that was there", api.ErrTwice, Change{Kind: Begin, Run: 2, Name: "w", Events: []api.Event{started(3)}}},
		{"the last run", api.ErrTwice, Change{Kind: Begin, Run: 3, Name: "w", Events: []api.Event{started(3)}}},
		{"a run behind the next one", api.ErrTwice, Change{Kind: Begin, Run: 5, Name: "w", Events: []api.Event{started(3)}}},
		{"a run below 0", api.ErrTwice, Change{Kind: Begin, Run: -1, Name: "w", Events: []api.Event{started(3)}}},
		{"a small run", api.ErrTwice, Change{Kind: Begin, Run: math.MinInt, Name: "w", Events: []api.Event{started(3)}}},
		{"no events", api.ErrShort, Change{Kind: Begin, Name: "w"}},
		{"no events of the next one", api.ErrShort, Change{Kind: Begin, Run: 4, Name: "w", Events: []api.Event{}}},
		{"no run-started", api.ErrState, begin("w", signal(3))},
		{"a wrong number", api.ErrChain, begin("w", started(3), api.Event{ID: 3, Kind: api.SignalReceived})},
		{"no kind of an event", api.ErrKind, begin("w", api.Event{})},
		{"an early event", api.ErrRange, begin("w", started(3), signal(2))},
		{"an event behind the end", api.ErrClosed, begin("w", started(3), ended(4), signal(5))},

		{"Append with a name", api.ErrForm, Change{Kind: Append, Run: 9, Name: "w"}},
		{"Append with a name of a run", api.ErrForm, Change{Kind: Append, Run: 1, Name: "w", Events: []api.Event{signal(9)}}},
		{"Append with a long name", api.ErrForm, Change{Kind: Append, Run: 1, Name: long}},
		{"Append to no run", api.ErrMissing, add(4, signal(9))},
		{"Append to the run 0", api.ErrMissing, add(0, signal(9))},
		{"Append to a run below 0", api.ErrMissing, add(-1, signal(9))},
		{"Append to a forgotten one", api.ErrMissing, add(2, signal(9))},
		{"Append of none to none", api.ErrMissing, add(9)},
		{"Append of what can't be to none", api.ErrMissing, add(9, api.Event{})},
		{"Append of a run-started", api.ErrState, add(1, started(9))},
		{"Append behind the end", api.ErrClosed, add(3, signal(9))},
		{"Append too early", api.ErrRange, add(1, signal(2))},
		{"Append with a wrong number", api.ErrChain, add(1, api.Event{ID: 1, Time: 9, Kind: api.SignalReceived})},
		{"Append of no kind", api.ErrKind, add(1, api.Event{Kind: 22})},

		{"Delete with a name", api.ErrForm, Change{Kind: Delete, Run: 3, Name: "v"}},
		{"Delete with events", api.ErrForm, Change{Kind: Delete, Run: 3, Events: []api.Event{signal(9)}}},
		{"Delete with events of no run", api.ErrForm, Change{Kind: Delete, Run: 9, Events: []api.Event{{}}}},
		{"Delete of no run", api.ErrMissing, forget(4)},
		{"Delete of the run 0", api.ErrMissing, forget(0)},
		{"Delete of a forgotten one", api.ErrMissing, forget(2)},
		{"Delete of an open one", api.ErrState, forget(1)},

		{"kind 0", api.ErrKind, Change{}},
		{"kind 4", api.ErrKind, Change{Kind: 4, Run: 1, Name: long}},
		{"kind -1", api.ErrKind, Change{Kind: -1, Run: 1}},
		{"kind 257", api.ErrKind, Change{Kind: 257, Name: "w", Events: []api.Event{started(3)}}},
		{"a great kind", api.ErrKind, Change{Kind: math.MaxInt}},
	} {
		t.Run(y.what, func(t *testing.T) {
			x.wantRefused(t, y.want, Batch{y.c})
			x.wantRefused(t, y.want, Batch{y.c, {Kind: 7}})
			x.wantRefused(t, y.want, Batch{add(1, signal(3), signal(3)), y.c})
		})
	}
}

// P19.2: within a batch each change is held against those ahead of it.
func TestWithinBatch(t *testing.T) {
	x := newLook(t, manySegs)
	x.wantRefused(t, api.ErrMissing, Batch{add(1, signal(3)), begin("w", started(3))})
	x.wantRefused(t, api.ErrTwice, Batch{begin("w", started(3)), {Kind: Begin, Run: 1, Name: "w", Events: []api.Event{started(3)}}})
	x.wantRefused(t, api.ErrMissing, Batch{begin("w", started(3), ended(4)), forget(1), add(1, signal(5))})
	x.wantRefused(t, api.ErrMissing, Batch{begin("w", started(3), ended(4)), forget(1), forget(1)})
	x.wantRefused(t, api.ErrState, Batch{begin("w", started(3)), forget(1)})
	x.wantRefused(t, api.ErrClosed, Batch{begin("w", started(3)), add(1, ended(4)), add(1, signal(5))})
	x.wantRefused(t, api.ErrRange, Batch{begin("w", started(3)), add(1, signal(9)), add(1, signal(8))})
	x.wantRefused(t, api.ErrKind, Batch{begin("w", started(3), ended(4)), begin("w", started(3)), add(2, signal(9)), forget(1), add(2, signal(9)), begin("v", started(3)), {}})
	x.want(t, Batch{begin("w", started(3)), {Kind: Begin, Run: 2, Name: "w", Events: []api.Event{started(3)}}, add(1, signal(9)), add(1, signal(9), ended(9)), forget(1)})
	x.want(t, Batch{begin("v", started(3), ended(4))})
	x.wantRefused(t, api.ErrKind, Batch{forget(3), begin("v", started(3)), begin("u", started(3)), add(2, signal(9), ended(9)), forget(2), {}})
	x.wantRefused(t, api.ErrLong, slices.Concat(Batch{forget(3), add(2, signal(9), ended(9)), forget(2)}, sized(2039)))
}

// P19.2: how many changes a batch has at most.
func TestMaxChanges(t *testing.T) {
	x := newLook(t, manySegs, Batch{begin("w", started(3))})
	x.wantRefused(t, api.ErrLong, make(Batch, 65))
	x.wantRefused(t, api.ErrKind, make(Batch, 64))
	b := slices.Repeat(Batch{add(1)}, 65)
	x.wantRefused(t, api.ErrLong, b)
	x.want(t, b[:64])
}

// P19.2: how long a workflow's name is at most.
func TestNames(t *testing.T) {
	x := newLook(t, manySegs)
	x.want(t, Batch{begin(strings.Repeat("n", 64), started(3))})
	x.wantRefused(t, api.ErrLong, Batch{begin(strings.Repeat("n", 65), started(3))})
}

// P19.2: how many runs there are at most: 256 at a time.
func TestMaxRuns(t *testing.T) {
	x := newLook(t, manySegs)
	for range 255 {
		if codes, e := x.s.Write(Batch{begin("w", started(3))}); e != api.OK || codes[0] != api.OK {
			t.Fatalf("Write: %v, %v", codes, e)
		}
		x.m, _, _ = x.m.batch(Batch{begin("w", started(3))})
	}
	x.wantRefused(t, api.ErrFull, Batch{begin("w", started(3)), begin("w", started(3))})
	x.want(t, Batch{begin("v", started(3), ended(4))})
	x.wantRefused(t, api.ErrFull, Batch{begin("v", started(3))})
	x.wantRefused(t, api.ErrFull, Batch{begin("v")})
	x.wantRefused(t, api.ErrTwice, Batch{{Kind: Begin, Run: 256, Name: "v"}})
	x.wantRefused(t, api.ErrFull, Batch{begin("v", started(3)), forget(256)})
	x.want(t, Batch{forget(256), begin("v", started(3))})
	x.wantRefused(t, api.ErrFull, Batch{begin("v", started(3))})
	if e := x.s.Checkpoint(); e != api.OK {
		t.Fatalf("Checkpoint: %v", e)
	}
	wantStore(t, mustOpen(t, x.d), x.m)
	x.wantRefused(t, api.ErrFull, Batch{begin("v", started(3))})
}

// P19.2: the last number that a run gets is one below 2^30.
func TestMaxNumber(t *testing.T) {
	d := mustDisk(t, twoSegs)
	log, _, _ := wal.Open(d)
	m := told{next: 1<<30 - 1, had: map[string]int{"w": 1<<30 - 2}}
	if e := log.Checkpoint(m.state()); e != api.OK {
		t.Fatalf("Checkpoint: %v", e)
	}
	x := &look{d, mustOpen(t, d), m}
	wantStore(t, x.s, m)
	x.wantRefused(t, api.ErrFull, Batch{begin("w", started(3)), begin("w", started(3))})
	x.want(t, Batch{begin("w", started(3), ended(4))})
	if i, e := x.s.Info(1<<30 - 1); i.Place != 1<<30-1 || e != api.OK {
		t.Errorf("Info: %+v, %v", i, e)
	}
	x.wantRefused(t, api.ErrFull, Batch{begin("w", started(3))})
	x.wantRefused(t, api.ErrTwice, Batch{{Kind: Begin, Run: 1<<30 - 1, Name: "w"}})
	x.want(t, Batch{forget(1<<30 - 1)})
	x.wantRefused(t, api.ErrFull, Batch{begin("w", started(3))})
	if e := x.s.Checkpoint(); e != api.OK || x.s.Next() != MaxNumber {
		t.Errorf("Checkpoint: %v; Next: %d", e, x.s.Next())
	}
	wantStore(t, mustOpen(t, d), x.m)
}

// sized: a batch of n bytes (14 at least) that begins a run, of which there are fewer than 127.
func sized(n int) Batch {
	const first, more = 14, 106
	e := api.Event{Time: 3, Kind: api.RunStarted, Text: strings.Repeat("t", (n-first)%more)}
	list := []api.Event{e}
	for range (n - first) / more {
		list = append(list, api.Event{Time: 3, Kind: api.SignalReceived, Value: value.Text(strings.Repeat("v", 100))})
	}
	return Batch{begin("w", list...)}
}

// P19.2: how many bytes a batch has at most.
func TestMaxData(t *testing.T) {
	for _, n := range []int{14, 15, 119, 120, 121, 2038, 2039, 2040, 2041, 5000} {
		x := newLook(t, manySegs, Batch{begin("v", started(3))})
		_, b, e := nothing().batch(sized(n))
		if n <= 2039 && (len(b) != n || e != api.OK) {
			t.Fatalf("sized(%d): %d bytes, %v", n, len(b), e)
		}
		if n > 2039 {
			x.wantRefused(t, api.ErrLong, sized(n))
			x.wantRefused(t, api.ErrKind, append(sized(n), Change{}))
			continue
		}
		x.want(t, sized(n))
	}
}

// P19.2: the bytes of a batch in the log, by hand.
func TestBatchBytes(t *testing.T) {
	x := newLook(t, twoSegs)
	x.want(t, Batch{begin("w", started(3)), add(1, signal(4))})
	x.want(t, Batch{add(1, ended(5)), forget(1), begin("v", started(6))})
	x.want(t, Batch{})
	_, frames, e := wal.Open(x.d)
	want := []wal.Frame{
		{Kind: wal.Batch, Data: []byte("\x02" + "\x01\x01\x01w\x01" + "\x01\x01\x03\x00\x00\x01p\x00\x00" + "\x02\x01\x00\x01" + "\x0e\x02\x04\x02go\x00")},
		{Kind: wal.Batch, Data: []byte("\x03" + "\x02\x01\x00\x01" + "\x14\x03\x05" + "\x03\x01\x00\x00" + "\x01\x02\x01v\x01" + "\x01\x01\x06\x00\x00\x01p\x00\x00")},
		{Kind: wal.Batch, Data: []byte("\x00")},
	}
	if e != api.OK || !reflect.DeepEqual(frames, want) {
		t.Errorf("the log: %v, %v, want %v", frames, e, want)
	}
}

// P19.4: the bytes of what is kept, by hand.
func TestState(t *testing.T) {
	x := newLook(t, twoSegs)
	if got := x.s.State(); string(got) != "\x01\x00\x00" {
		t.Errorf("State of nothing: %x", got)
	}
	x.want(t, Batch{begin("w", started(3)), begin("", started(4), ended(5)), begin("w", started(3))})
	x.want(t, Batch{add(1, ended(5)), forget(1)})
	two, three := seedOf("", 2), seedOf("w", 3)
	last2, _ := x.s.Sum(2)
	last3, _ := x.s.Sum(3)
	want := "\x04" + "\x02" + "\x00\x01" + "\x01w\x02" + "\x02" +
		"\x02\x00\x01" + string(two[:]) + "\x02" + "\x01\x01\x04\x00\x00\x01p\x00\x00" + "\x14\x02\x05" + string(last2[:]) +
		"\x03\x01w\x02" + string(three[:]) + "\x01" + "\x01\x01\x03\x00\x00\x01p\x00\x00" + string(last3[:])
	if got := x.s.State(); string(got) != want {
		t.Errorf("State: %x, want %x", got, want)
	}
}

// P19.4: a checkpoint changes nothing that is kept; the log has it alone, in as many parts as it takes.
func TestCheckpoint(t *testing.T) {
	x := newLook(t, manySegs)
	for i := range 40 {
		x.want(t, sized(14+50*i))
		if e := x.s.Checkpoint(); e != api.OK {
			t.Fatalf("Checkpoint: %v", e)
		}
		wantStore(t, x.s, x.m)
		wantStore(t, mustOpen(t, x.d.Clone()), x.m)
		_, frames, _ := wal.Open(x.d.Clone())
		var all []byte
		for _, f := range frames {
			all = append(all, f.Data...)
		}
		if string(all) != string(x.m.state()) || frames[len(frames)-1].Kind != wal.Last {
			t.Fatalf("the log tells %d frames, %d bytes, want %d", len(frames), len(all), len(x.m.state()))
		}
		if x.s.Checkpoints() != int64(i+1) {
			t.Errorf("Checkpoints: %d", x.s.Checkpoints())
		}
	}
}

// P19.4: a checkpoint for which there is no room.
func TestCheckpointFull(t *testing.T) {
	x := newLook(t, twoSegs, sized(1900), sized(1900))
	left, checkpoints := x.s.Left(), x.s.Checkpoints()
	if e := x.s.Checkpoint(); e != api.ErrFull || x.s.Checkpoints() != checkpoints || x.s.Left() != left {
		t.Errorf("Checkpoint: %v; Checkpoints, Left: %d, %d", e, x.s.Checkpoints(), x.s.Left())
	}
	wantStore(t, x.s, x.m)
	wantStore(t, mustOpen(t, x.d.Clone()), x.m)
	x.want(t, Batch{add(1, signal(9))})
}

// P19.3: each of many is answered; those that may be are held against those ahead of them that may be.
func TestWriteMany(t *testing.T) {
	x := newLook(t, manySegs)
	o := x.write(t,
		Batch{add(1, signal(3))},
		Batch{begin("w", started(3))},
		Batch{begin("w", started(3)), {}},
		Batch{add(1, signal(4)), add(2, signal(4))},
		Batch{add(1, signal(5))},
		Batch{add(1, signal(4))},
		Batch{{Kind: Begin, Run: 2, Name: "v", Events: []api.Event{started(5)}}, add(1, ended(6))},
		make(Batch, 65),
		Batch{add(1, signal(6))},
		Batch{forget(1)},
		Batch{},
		Batch{forget(1)},
	)
	want := []api.Errno{api.ErrMissing, 0, api.ErrKind, api.ErrMissing, 0, api.ErrRange, 0, api.ErrLong, api.ErrClosed, 0, 0, api.ErrMissing}
	if !slices.Equal(o.codes, want) || x.s.Batches() != 5 {
		t.Errorf("Write: %v, want %v; Batches: %d", o.codes, want, x.s.Batches())
	}
	if o := x.write(t); len(o.codes) != 0 {
		t.Errorf("Write of none: %v", o.codes)
	}
	flushes := x.d.Flushes()
	x.write(t, Batch{}, Batch{begin("w", started(3))}, Batch{add(3, signal(4))})
	if n := x.d.Flushes() - flushes; n != 2 {
		t.Errorf("%d flushes, want one of the log, and one of its mark", n)
	}
}

// P19.3: no more than 64 wait in the log.
func TestWriteTooMany(t *testing.T) {
	x := newLook(t, manySegs, Batch{begin("w", started(3))})
	list := slices.Repeat([]Batch{{add(1, signal(4))}}, 70)
	list[10], list[66] = Batch{{}}, Batch{forget(1)}
	o := x.write(t, list...)
	for i, e := range o.codes {
		want := api.OK
		switch {
		case i == 10:
			want = api.ErrKind
		case i == 66:
			want = api.ErrState
		case i > 64:
			want = api.ErrFull
		}
		if e != want {
			t.Errorf("the batch %d: %v, want %v", i, e, want)
		}
	}
	if i, _ := x.s.Info(1); o.code != api.ErrFull || i.Len != 65 {
		t.Errorf("Write: %v, and %d events", o.code, i.Len)
	}
	x.write(t, slices.Repeat([]Batch{{add(1, signal(4))}}, 64)...)
}

// P19.3: a checkpoint is made ahead, if the costs of all that may be are above what the log has left, and not if they are that.
func TestCheckpointAhead(t *testing.T) {
	edges := map[int]int{}
	for fill := range 6 {
		x := newLook(t, 2+3*16, Batch{begin("v", started(3))}, sized(14+fill))
		for range 100 { // the log has more of them than a checkpoint would
			x.want(t, Batch{add(1, signal(4))})
		}
		for _, rest := range [][]Batch{nil, {{}}, {sized(300), {{}}}, {sized(300), make(Batch, 99), sized(200)}} {
			cost := 0
			for _, b := range rest {
				if _, bytes, e := x.m.batch(b); e == api.OK {
					cost += wal.Cost(len(bytes))
				}
			}
			least := (x.s.Left()-cost-wal.Cost(0))/2 - 1
			for n := least; n < least+4; n++ {
				d := x.d.Clone()
				y := &look{d, mustOpen(t, d), x.m}
				more := cost + wal.Cost(n) - y.s.Left()
				y.write(t, append([]Batch{sized(n)}, rest...)...)
				if ahead := y.s.Checkpoints() == 1; ahead != (more > 0) {
					t.Errorf("costs %d above what is left: a checkpoint: %v", more, ahead)
				}
				edges[more]++
			}
		}
	}
	if edges[0] < 3 || edges[1] < 3 {
		t.Errorf("how far from the edge: %v", edges)
	}
}

// P19.3: a log that is full, also behind a checkpoint: of what has no room nothing is kept.
func TestWriteFull(t *testing.T) {
	x := newLook(t, 2+3*16, Batch{begin("v", started(3))})
	for range 60 {
		x.want(t, Batch{add(1, signal(4))})
	}
	o := x.write(t, sized(1800), Batch{{}}, sized(1800), sized(1800), Batch{add(4, signal(4))}, Batch{add(5)}, Batch{})
	want := []api.Errno{0, api.ErrKind, 0, api.ErrFull, api.ErrFull, api.ErrMissing, api.ErrFull}
	if o.code != api.ErrFull || !slices.Equal(o.codes, want) || o.checkpoints != 1 {
		t.Errorf("Write: %v, %v, %d checkpoints", o.codes, o.code, o.checkpoints)
	}
	if x.s.Next() != 4 || x.s.Find("w") != 3 {
		t.Errorf("Next, Find: %d, %d", x.s.Next(), x.s.Find("w"))
	}
	for n := 1500; n >= 14; n /= 2 {
		for range 30 {
			o = x.write(t, sized(n))
		}
		if o.code != api.ErrFull || o.codes[0] != api.ErrFull || o.batches != 0 {
			t.Errorf("Write: %v, %v", o.codes, o.code)
		}
	}
}

// P19.3: where there is no room for the checkpoint itself, the log's room is used all the same.
func TestNoRoomForCheckpoint(t *testing.T) {
	x := newLook(t, twoSegs, sized(2000))
	o := x.write(t, sized(2030))
	if o.checkpoints != 0 || o.codes[0] != api.OK {
		t.Errorf("Write: %v, %d checkpoints", o.codes, o.checkpoints)
	}
}

// P19.3: a log goes round and round, as long as runs are forgotten.
func TestRoundAndRound(t *testing.T) {
	x := newLook(t, twoSegs)
	for n := 1; n < 120; n++ {
		x.want(t, sized(300)) // sized counts on numbers below 127
		x.want(t, Batch{add(n, ended(3))})
		x.want(t, Batch{forget(n)})
	}
	if x.s.Checkpoints() < 10 || x.s.Next() != 120 || len(x.s.Runs()) != 0 {
		t.Errorf("Checkpoints, Next: %d, %d", x.s.Checkpoints(), x.s.Next())
	}
}

// P19.4: what was counted is counted since the store was opened.
func TestCounts(t *testing.T) {
	x := newLook(t, manySegs, Batch{begin("w", started(3))}, Batch{}, Batch{add(1, signal(3))})
	x.write(t, Batch{}, Batch{{}}, Batch{})
	x.s.Checkpoint()
	x.s.Checkpoint()
	if x.s.Batches() != 5 || x.s.Checkpoints() != 2 {
		t.Errorf("Batches, Checkpoints: %d, %d", x.s.Batches(), x.s.Checkpoints())
	}
	s := mustOpen(t, x.d)
	if s.Batches() != 0 || s.Checkpoints() != 0 {
		t.Errorf("Batches, Checkpoints of one opened anew: %d, %d", s.Batches(), s.Checkpoints())
	}
}

// P19.6: a workflow's last run is that of the greatest number that is there.
func TestFind(t *testing.T) {
	x := newLook(t, manySegs, Batch{begin("w", started(3), ended(3)), begin("v", started(3)), begin("w", started(3), ended(3)), begin("w", started(3), ended(3))})
	for _, y := range []struct{ forgotten, want int }{{1, 4}, {4, 3}, {3, 0}} {
		x.want(t, Batch{forget(y.forgotten)})
		if got := x.s.Find("w"); got != y.want {
			t.Errorf("Find: %d, want %d", got, y.want)
		}
	}
	if x.s.Find("v") != 2 || x.s.Find("") != 0 || x.s.Find("W") != 0 {
		t.Error("Find of others")
	}
}

// P19.6: runs by their numbers, however many digits those have.
func TestRunsInOrder(t *testing.T) {
	x := newLook(t, manySegs)
	for range 130 {
		if codes, e := x.s.Write(Batch{begin("w", started(3))}); e != api.OK || codes[0] != api.OK {
			t.Fatalf("Write: %v, %v", codes, e)
		}
		x.m, _, _ = x.m.batch(Batch{begin("w", started(3))})
	}
	wantStore(t, x.s, x.m)
	for i, r := range x.s.Runs() {
		if r.Run != i+1 || r.Place != i+1 {
			t.Fatalf("Runs: %+v at %d", r, i)
		}
	}
}

// P2: what is handed in is neither changed nor kept, what is answered is nobody else's.
func TestMemory(t *testing.T) {
	v := func() api.Value { return value.List(value.Of(5), value.List(value.Text("a"))) }
	batch := func() Batch {
		return Batch{begin("w", started(3), api.Event{Time: 4, Kind: api.SignalReceived, Name: "go", Value: v()}), add(1, api.Event{Time: 5, Kind: api.SignalReceived, Value: v()})}
	}
	x := newLook(t, manySegs)
	x.m, _, _ = x.m.batch(batch())
	b := batch()
	b = append(b, Change{Kind: 7})[:2]
	list := []Batch{b, {{Kind: 9}}}
	x.s.Write(list[:1]...)
	if !reflect.DeepEqual(b, batch()) || b[:3][2].Kind != 7 || list[1][0].Kind != 9 {
		t.Errorf("what was handed in is changed: %+v", b)
	}
	spill(b[0].Events)
	spill(b[1].Events)
	clear(b)
	wantStore(t, x.s, x.m)
	for range 2 {
		spill(x.s.All(1))
		for _, l := range x.s.Histories() {
			spill(l)
		}
		h := x.s.Histories()
		delete(h, 1)
		h[7] = nil
		p, _ := x.s.Page(1, 1, 9)
		spill(p)
		clear(x.s.State())
		clear(x.s.Runs())
		wantStore(t, x.s, x.m)
	}
	wantStore(t, mustOpen(t, x.d), x.m)
}

// spill alters all that a list has, its spare room too.
func spill(list []api.Event) {
	list = list[:cap(list)]
	for i := range list {
		values := list[i].Value.List
		values = values[:cap(values)]
		for j := range values {
			clear(values[j].List)
			values[j] = value.Of(99)
		}
		list[i] = api.Event{ID: 77}
	}
}

// P2: two stores have nothing to do with one another.
func TestApart(t *testing.T) {
	x, y := newLook(t, twoSegs, Batch{begin("w", started(3))}), newLook(t, twoSegs)
	wantStore(t, y.s, nothing())
	y.want(t, Batch{begin("v", started(3))})
	wantStore(t, x.s, x.m)
	if x.s.Batches() != 1 || y.s.Batches() != 1 {
		t.Error("Batches")
	}
}
