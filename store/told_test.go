package store

import (
	"crypto/sha256"
	"encoding/binary"
	"maps"
	"math"
	"reflect"
	"slices"
	"testing"

	"foliot/api"
	"foliot/disk"
	"foliot/event"
	"foliot/history"
	"foliot/wal"
)

// toldRun is a run as layer 19's words tell of it.
type toldRun struct {
	run    int
	name   string
	place  int
	events []api.Event
}

func (x toldRun) closed() bool { return event.Closes(x.events[len(x.events)-1]) }

// told is a store as layer 19's words tell of it: runs in a list, by their numbers.
type told struct {
	next int
	had  map[string]int
	runs []toldRun
}

func nothing() told { return told{next: 1, had: map[string]int{}} }

// copied: the same, in memory of its own; events that are there never change.
func (m told) copied() told {
	return told{m.next, maps.Clone(m.had), slices.Clone(m.runs)}
}

func (m told) where(run int) int {
	return slices.IndexFunc(m.runs, func(x toldRun) bool { return x.run == run })
}

// uvarint: a number below 128 in a byte, and so on.
func uvarint(b []byte, n int) []byte { return binary.AppendUvarint(b, uint64(n)) }

func text(b []byte, s string) []byte { return append(uvarint(b, len(s)), s...) }

func encoded(b []byte, list []api.Event) []byte {
	for _, e := range list {
		x, code := event.Encode(e)
		if code != api.OK {
			panic(code)
		}
		b = append(b, x...)
	}
	return b
}

// seedOf: the sum with which a run's chain begins.
func seedOf(name string, run int) api.Sum { return sha256.Sum256(uvarint(text(nil, name), run)) }

// sum: that of a run's chain.
func (x toldRun) sum() api.Sum {
	s := seedOf(x.name, x.run)
	for _, e := range x.events {
		s = sha256.Sum256(encoded(s[:], []api.Event{e}))
	}
	return s
}

// state: what State answers.
func (m told) state() []byte {
	b := uvarint(uvarint(nil, m.next), len(m.had))
	for _, name := range slices.Sorted(maps.Keys(m.had)) {
		b = uvarint(text(b, name), m.had[name])
	}
	b = uvarint(b, len(m.runs))
	for _, x := range m.runs {
		seed, last := seedOf(x.name, x.run), x.sum()
		b = uvarint(text(uvarint(b, x.run), x.name), x.place)
		b = uvarint(append(b, seed[:]...), len(x.events))
		b = append(encoded(b, x.events), last[:]...)
	}
	return b
}

// follow: what layer 18's Append makes of events behind others, all of them.
func follow(ahead, list []api.Event) ([]api.Event, api.Errno) {
	h := history.New(api.Sum{})
	if _, e := h.Append(ahead...); e != api.OK {
		panic(e)
	}
	if _, e := h.Append(list...); e != api.OK {
		return nil, e
	}
	return h.All(), api.OK
}

// change: what is made of a change, and its bytes.
func (m *told) change(c Change) ([]byte, api.Errno) {
	if c.Kind < 1 || c.Kind > 3 {
		return nil, api.ErrKind
	}
	b := []byte{byte(c.Kind)}
	if c.Kind == 1 {
		return m.begin(b, c)
	}
	if c.Name != "" || c.Kind == 3 && len(c.Events) > 0 {
		return nil, api.ErrForm
	}
	i := m.where(c.Run)
	if i < 0 {
		return nil, api.ErrMissing
	}
	b = append(uvarint(b, c.Run), 0)
	if c.Kind == 3 {
		if !m.runs[i].closed() {
			return nil, api.ErrState
		}
		m.runs = slices.Delete(m.runs, i, i+1)
		return append(b, 0), api.OK
	}
	n := len(m.runs[i].events)
	all, e := follow(m.runs[i].events, c.Events)
	if e != api.OK {
		return nil, e
	}
	m.runs[i].events = all
	return encoded(uvarint(b, len(c.Events)), all[n:]), api.OK
}

func (m *told) begin(b []byte, c Change) ([]byte, api.Errno) {
	switch {
	case len(c.Name) > 64:
		return nil, api.ErrLong
	case c.Run != 0 && c.Run != m.next:
		return nil, api.ErrTwice
	case len(m.runs) == 256 || m.next == 1<<30:
		return nil, api.ErrFull
	case len(c.Events) == 0:
		return nil, api.ErrShort
	}
	all, e := follow(nil, c.Events)
	if e != api.OK {
		return nil, e
	}
	m.had[c.Name]++
	m.runs = append(m.runs, toldRun{m.next, c.Name, m.had[c.Name], all})
	b = text(uvarint(b, m.next), c.Name)
	m.next++
	return encoded(uvarint(b, len(all)), all), api.OK
}

// batch: what is made of a batch, and its bytes.
func (m told) batch(list Batch) (told, []byte, api.Errno) {
	if len(list) > 64 {
		return m, nil, api.ErrLong
	}
	all, b := m.copied(), uvarint(nil, len(list))
	for _, c := range list {
		x, e := all.change(c)
		if e != api.OK {
			return m, nil, e
		}
		b = append(b, x...)
	}
	if len(b) > 2039 {
		return m, nil, api.ErrLong
	}
	return all, b, api.OK
}

// outcome is what a Write answers, what is told behind it, and how many checkpoints it has made.
type outcome struct {
	codes       []api.Errno
	code        api.Errno
	behind      told
	batches     int
	checkpoints int
}

// write: what becomes of batches, over a log of somebody else's that has what the store's has.
func (m told) write(t testing.TB, log *wal.Log, list ...Batch) outcome {
	t.Helper()
	o := outcome{codes: make([]api.Errno, len(list)), behind: m}
	ways, all := []told{m}, [][]byte{}
	var places []int
	cost := 0
	for i, x := range list {
		next, b, e := ways[len(ways)-1].batch(x)
		if o.codes[i] = e; e == api.OK {
			ways, all, places = append(ways, next), append(all, b), append(places, i)
			cost += 2*(9+len(b)) - 1
		}
	}
	if cost > log.Left() {
		switch e := log.Checkpoint(m.state()); e {
		case api.OK:
			o.checkpoints++
		case api.ErrFull:
		default:
			t.Fatalf("Checkpoint: %v", e)
		}
	}
	for _, b := range all[:min(len(all), 64)] {
		if e := log.Submit(b); e != api.OK {
			t.Fatalf("Submit: %v", e)
		}
	}
	n, e := log.Commit()
	if e != api.OK && e != api.ErrFull {
		t.Fatalf("Commit: %v", e)
	}
	log.Drop()
	o.behind, o.batches = ways[n], n
	for _, i := range places[n:] {
		o.codes[i], o.code = api.ErrFull, api.ErrFull
	}
	return o
}

// logOf: the log of a disk like this one, for who looks on.
func logOf(t testing.TB, d *disk.Disk) *wal.Log {
	t.Helper()
	log, _, e := wal.Open(d.Clone())
	if e != api.OK {
		t.Fatalf("wal.Open: %v", e)
	}
	return log
}

// wantStore: a store tells this, by each of its calls.
func wantStore(t testing.TB, s *Store, m told) {
	t.Helper()
	if s.Next() != m.next {
		t.Fatalf("Next: %d, want %d", s.Next(), m.next)
	}
	if string(s.State()) != string(m.state()) {
		t.Fatalf("State: %x, want %x", s.State(), m.state())
	}
	var infos []Info
	last, all := map[string]int{}, map[int][]api.Event{}
	for _, x := range m.runs {
		infos = append(infos, Info{Run: x.run, Name: x.name, Place: x.place, Len: len(x.events), Closed: x.closed()})
		last[x.name] = x.run
		all[x.run] = x.events
	}
	if got := s.Runs(); !slices.Equal(got, infos) {
		t.Fatalf("Runs: %+v, want %+v", got, infos)
	}
	if got := s.Histories(); !reflect.DeepEqual(got, all) {
		t.Fatalf("Histories: %+v, want %+v", got, all)
	}
	for name := range m.had {
		if got := s.Find(name); got != last[name] {
			t.Fatalf("Find(%q): %d, want %d", name, got, last[name])
		}
	}
	if s.Find("nobody's") != 0 {
		t.Fatalf("Find of none: %d", s.Find("nobody's"))
	}
	for i, x := range m.runs {
		wantRun(t, s, x, infos[i])
	}
	for _, n := range []int{math.MinInt, -1, 0, m.next, m.next + 1, math.MaxInt} {
		wantNoRun(t, s, n)
	}
	for n := max(1, m.next-20); n < m.next; n++ {
		if m.where(n) < 0 {
			wantNoRun(t, s, n)
		}
	}
}

func wantRun(t testing.TB, s *Store, x toldRun, want Info) {
	t.Helper()
	if got, e := s.Info(x.run); got != want || e != api.OK {
		t.Fatalf("Info(%d): %+v, %v, want %+v", x.run, got, e, want)
	}
	if got := s.All(x.run); !reflect.DeepEqual(got, x.events) {
		t.Fatalf("All(%d): %+v, want %+v", x.run, got, x.events)
	}
	if got, e := s.Sum(x.run); got != x.sum() || e != api.OK {
		t.Fatalf("Sum(%d): %x, %v, want %x", x.run, got, e, x.sum())
	}
	for _, p := range [][2]int{{1, 2}, {2, 1}, {1, 300}, {len(x.events), 300}, {len(x.events) + 1, 1}} {
		h := history.New(api.Sum{})
		h.Append(x.events...)
		want, code := h.Page(p[0], p[1])
		if got, e := s.Page(x.run, p[0], p[1]); e != code || !same(got, want) {
			t.Fatalf("Page(%d, %d, %d): %+v, %v, want %+v, %v", x.run, p[0], p[1], got, e, want, code)
		}
	}
	for _, p := range [][2]int{{0, 1}, {1, -1}, {len(x.events) + 2, 0}} {
		if got, e := s.Page(x.run, p[0], p[1]); e != api.ErrRange || got != nil {
			t.Fatalf("Page(%d, %d, %d): %+v, %v", x.run, p[0], p[1], got, e)
		}
	}
}

func wantNoRun(t testing.TB, s *Store, n int) {
	t.Helper()
	if got, e := s.Info(n); got != (Info{}) || e != api.ErrMissing {
		t.Fatalf("Info(%d): %+v, %v", n, got, e)
	}
	if got := s.All(n); len(got) != 0 {
		t.Fatalf("All(%d): %+v", n, got)
	}
	if got, e := s.Sum(n); got != (api.Sum{}) || e != api.ErrMissing {
		t.Fatalf("Sum(%d): %x, %v", n, got, e)
	}
	for _, p := range [][2]int{{1, 1}, {0, -1}} {
		if got, e := s.Page(n, p[0], p[1]); got != nil || e != api.ErrMissing {
			t.Fatalf("Page(%d, %d, %d): %+v, %v", n, p[0], p[1], got, e)
		}
	}
}

// same: are two lists the same? One that is empty may be none.
func same(a, b []api.Event) bool { return len(a) == 0 && len(b) == 0 || reflect.DeepEqual(a, b) }
