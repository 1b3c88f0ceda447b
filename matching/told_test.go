package matching

import (
	"math/big"
	"math/rand"
	"slices"
	"testing"

	"foliot/api"
	"foliot/queue"
)

// place is a task that waits: for whom, and since when.
type place struct {
	task   queue.Task
	worker int
	since  int64
}

// told is what chapter 21's words tell of a Match: two lists, in the order in which the things in them came, looked through from end to end.
type told struct {
	waits []place
	had   []Lease
	given uint64

	full, crowded int // how often there was no room: of calls, and of tasks that were to be freed
}

func sameTask(a, b queue.Task) bool { return a.Run == b.Run && a.Kind == b.Kind && a.ID == b.ID }

// of: those that wait for one worker (0: for anybody).
func (m *told) of(worker int) []place {
	var list []place
	for _, p := range m.waits {
		if p.worker == worker {
			list = append(list, p)
		}
	}
	return list
}

// part: of a list the things of which something holds, and the others.
func part[T any](list []T, holds func(T) bool) (these, others []T) {
	for _, x := range list {
		if holds(x) {
			these = append(these, x)
		} else {
			others = append(others, x)
		}
	}
	return these, others
}

// unwait, unhave: things of which something holds are gone: these.
func (m *told) unwait(holds func(place) bool) (gone []place) {
	gone, m.waits = part(m.waits, holds)
	return gone
}

func (m *told) unhave(holds func(Lease) bool) (gone []Lease) {
	gone, m.had = part(m.had, holds)
	return gone
}

func (m *told) where(x queue.Task) (int, bool) {
	for _, p := range m.waits {
		if sameTask(p.task, x) {
			return p.worker, true
		}
	}
	return 0, false
}

func (m *told) known(x queue.Task) bool {
	_, waits := m.where(x)
	for _, l := range m.had {
		waits = waits || sameTask(l.Task, x)
	}
	return waits
}

func (m *told) waiting() []queue.Task {
	var list []queue.Task
	for worker := 0; worker <= 64; worker++ {
		for _, p := range m.of(worker) {
			list = append(list, p.task)
		}
	}
	return list
}

func (m *told) add(x queue.Task, worker int, now int64) api.Errno {
	switch {
	case m.known(x):
		return api.ErrTwice
	case worker < 0 || worker > 64:
		return api.ErrRange
	case len(m.of(worker)) >= 128:
		m.full++
		return api.ErrFull
	}
	m.waits = append(m.waits, place{x, worker, now})
	return api.OK
}

func (m *told) poll(worker, kind int, now int64) (Lease, api.Errno) {
	switch {
	case worker < 1 || worker > 64:
		return Lease{}, api.ErrRange
	case len(m.had) >= 256:
		m.full++
		return Lease{}, api.ErrFull
	}
	for _, p := range append(m.of(worker), m.of(0)...) {
		if p.task.Kind == kind {
			m.unwait(func(o place) bool { return o == p })
			m.given++
			l := Lease{Token: m.given, Task: p.task, Worker: worker, Until: now + 20}
			m.had = append(m.had, l)
			return l, api.OK
		}
	}
	return Lease{}, api.ErrMissing
}

func (m *told) get(token uint64, now int64) (Lease, api.Errno) {
	for _, l := range m.had {
		if l.Token == token && now < l.Until {
			return l, api.OK
		}
	}
	return Lease{}, api.ErrToken
}

// free: what waits for a worker, and may be freed, waits for anybody, as far as there is room.
func (m *told) free(worker int, now int64, may func(place) bool) {
	for _, p := range m.of(worker) {
		if !may(p) {
			continue
		}
		if len(m.of(0)) >= 128 {
			m.crowded++
			continue
		}
		m.unwait(func(o place) bool { return o == p })
		m.waits = append(m.waits, place{p.task, 0, now})
	}
}

func (m *told) expire(now int64) []Lease {
	for worker := 1; worker <= 64; worker++ {
		m.free(worker, now, func(p place) bool {
			ticks := new(big.Int).Sub(big.NewInt(now), big.NewInt(p.since))
			return ticks.Cmp(big.NewInt(5)) >= 0
		})
	}
	return m.unhave(func(l Lease) bool { return l.Until <= now })
}

func (m *told) lose(worker int, now int64) []Lease {
	if worker < 1 || worker > 64 {
		return nil
	}
	m.free(worker, now, func(place) bool { return true })
	m.unwait(func(p place) bool { return p.worker == worker })
	return m.unhave(func(l Lease) bool { return l.Worker == worker })
}

func (m *told) drop(run int) int {
	return len(m.unwait(func(p place) bool { return p.task.Run == run })) +
		len(m.unhave(func(l Lease) bool { return l.Task.Run == run }))
}

func (m *told) cancel(x queue.Task) bool {
	return len(m.unwait(func(p place) bool { return sameTask(p.task, x) }))+
		len(m.unhave(func(l Lease) bool { return sameTask(l.Task, x) })) > 0
}

// both is a Match, and what is told of it; each call is held against the words.
type both struct {
	t     *testing.T
	match *Match
	told  *told
}

func newBoth(t *testing.T) *both { return &both{t, &Match{}, &told{}} }

func (b *both) add(x queue.Task, worker int, now int64) {
	b.t.Helper()
	if got, want := b.match.Add(x, worker, now), b.told.add(x, worker, now); got != want {
		b.t.Fatalf("Add(%v, %d, %d): %v, want %v", x, worker, now, got, want)
	}
}

func (b *both) poll(worker, kind int, now int64) {
	b.t.Helper()
	got, e := b.match.Poll(worker, kind, now)
	if want, f := b.told.poll(worker, kind, now); got != want || e != f {
		b.t.Fatalf("Poll(%d, %d, %d): %v, %v, want %v, %v", worker, kind, now, got, e, want, f)
	}
}

func (b *both) get(token uint64, now int64) {
	b.t.Helper()
	got, e := b.match.Get(token, now)
	if want, f := b.told.get(token, now); got != want || e != f {
		b.t.Fatalf("Get(%d, %d): %v, %v, want %v, %v", token, now, got, e, want, f)
	}
}

func (b *both) done(token uint64) {
	b.t.Helper()
	want := len(b.told.unhave(func(l Lease) bool { return l.Token == token })) > 0
	if got := b.match.Done(token); got != want {
		b.t.Fatalf("Done(%d): %v, want %v", token, got, want)
	}
}

func (b *both) expire(now int64) {
	b.t.Helper()
	if got, want := b.match.Expire(now), b.told.expire(now); !slices.Equal(got, want) {
		b.t.Fatalf("Expire(%d): %v, want %v", now, got, want)
	}
}

func (b *both) lose(worker int, now int64) {
	b.t.Helper()
	if got, want := b.match.Lose(worker, now), b.told.lose(worker, now); !slices.Equal(got, want) {
		b.t.Fatalf("Lose(%d, %d): %v, want %v", worker, now, got, want)
	}
}

func (b *both) drop(run int) {
	b.t.Helper()
	if got, want := b.match.Drop(run), b.told.drop(run); got != want {
		b.t.Fatalf("Drop(%d): %d, want %d", run, got, want)
	}
}

func (b *both) cancel(x queue.Task) {
	b.t.Helper()
	if got, want := b.match.Cancel(x), b.told.cancel(x); got != want {
		b.t.Fatalf("Cancel(%v): %v, want %v", x, got, want)
	}
}

// look: all that is kept is as it is told.
func (b *both) look() {
	b.t.Helper()
	if got, want := b.match.Waiting(), b.told.waiting(); !slices.Equal(got, want) {
		b.t.Fatalf("Waiting: %v, want %v", got, want)
	}
	if got := b.match.Leases(); !slices.Equal(got, b.told.had) {
		b.t.Fatalf("Leases: %v, want %v", got, b.told.had)
	}
	if got := b.match.Given(); got != b.told.given {
		b.t.Fatalf("Given: %d, want %d", got, b.told.given)
	}
	for _, p := range b.told.waits {
		b.lookAt(p.task)
	}
	for _, l := range b.told.had {
		b.lookAt(l.Task)
	}
}

func (b *both) lookAt(x queue.Task) {
	b.t.Helper()
	got, ok := b.match.Where(x)
	if want, has := b.told.where(x); got != want || ok != has {
		b.t.Fatalf("Where(%v): %d, %v, want %d, %v", x, got, ok, want, has)
	}
	if got, want := b.match.Known(x), b.told.known(x); got != want {
		b.t.Fatalf("Known(%v): %v, want %v", x, got, want)
	}
}

// P1 and P21.1 to P21.5: steps by chance, of few tasks, workers and ticks, against the document's words.
func TestSteps(t *testing.T) {
	r := rand.New(rand.NewSource(21))
	for _, ids := range []int64{2, 6, 30} {
		for range 12 {
			b := newBoth(t)
			for range 800 {
				b.step(r, ids, 100)
				b.look()
			}
		}
	}
}

// P21.2 to P21.5: steps by chance, of so many tasks that there is no room for all of them.
func TestStepsWithoutRoom(t *testing.T) {
	r := rand.New(rand.NewSource(22))
	for range 6 {
		b := newBoth(t)
		for i := range 3000 {
			if b.step(r, 1000, 300); i%20 == 0 {
				b.look()
			}
		}
		if b.told.full == 0 || b.told.crowded == 0 {
			t.Errorf("there was room: %d calls were refused, and %d tasks weren't freed", b.told.full, b.told.crowded)
		}
	}
}

// step: one call by chance; of so many, some that take much away.
func (b *both) step(r *rand.Rand, ids int64, many int) {
	b.t.Helper()
	workers := []int{0, 1, 2, 2, 64, -1, 65}
	x, now := queue.Task{Run: r.Intn(3), Kind: r.Intn(3), ID: r.Int63n(ids)}, r.Int63n(30)
	worker, token := workers[r.Intn(len(workers))], uint64(r.Int63n(int64(b.told.given)+2))
	switch n := r.Intn(many); {
	case n == 0:
		b.lose(worker, now)
	case n == 1:
		b.drop(x.Run)
	case n < 4:
		b.expire(now)
	case n < 6:
		b.done(token)
	case n < 8:
		b.cancel(x)
	case n < 12:
		b.lookAt(x)
	case n < 20:
		b.get(token, now)
	case n%10 < 2:
		b.poll(worker, x.Kind, now)
	default:
		b.add(x, worker, now)
	}
}
