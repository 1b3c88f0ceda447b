package engine

import (
	"fmt"
	"maps"
	"math/rand"
	"slices"
	"testing"

	"foliot/api"
	"foliot/cron"
	"foliot/disk"
	"foliot/event"
	"foliot/matching"
	"foliot/policy"
	"foliot/queue"
	"foliot/run"
	"foliot/timers"
	"foliot/value"
)

// place is a task that waits.
type place struct {
	task   queue.Task
	worker int
	since  int64
}

// told is the server as the document tells of it, without a disk: it keeps the histories, and asks them anew each time.
type told struct {
	now       int64
	programs  Programs
	histories map[int][]api.Event
	names     map[int]string
	next      int
	waiting   []place // in the order in which they came to wait there
	leases    []matching.Lease
	given     uint64
	minds     map[int]int
	tried     map[queue.Task]int
	again     map[queue.Task]int64
}

func newTold(p Programs) *told {
	m := &told{programs: p, histories: map[int][]api.Event{}, names: map[int]string{}, next: 1}
	m.reopen()
	return m
}

// reopen: what no history tells is forgotten.
func (m *told) reopen() {
	m.waiting, m.leases, m.given = nil, nil, 0
	m.minds, m.tried, m.again = map[int]int{}, map[queue.Task]int{}, map[queue.Task]int64{}
	m.wake()
}

func (m *told) runs() []int { return slices.Sorted(maps.Keys(m.histories)) }

func (m *told) state(n int) *run.State {
	s, e := run.Of(m.histories[n]...)
	if e != api.OK {
		panic(e)
	}
	return s
}

func (m *told) last(name string) int {
	last := 0
	for n, other := range m.names {
		if other == name {
			last = max(last, n)
		}
	}
	return last
}

func (m *told) waits(t queue.Task) bool {
	return slices.ContainsFunc(m.waiting, func(p place) bool { return p.task == t })
}

func (m *told) had(t queue.Task) bool {
	return slices.ContainsFunc(m.leases, func(l matching.Lease) bool { return l.Task == t })
}

func (m *told) room(worker int) bool {
	n := 0
	for _, p := range m.waiting {
		if p.worker == worker {
			n++
		}
	}
	return n < 128
}

// wait: a task waits, unless it is known, or there is no room.
func (m *told) wait(t queue.Task, worker int) {
	if !m.waits(t) && !m.had(t) && m.room(worker) {
		m.waiting = append(m.waiting, place{t, worker, m.now})
	}
}

func (m *told) wake() {
	for _, n := range m.runs() {
		s := m.state(n)
		if s.Closed() {
			m.waiting = slices.DeleteFunc(m.waiting, func(p place) bool { return p.task.Run == n })
			m.leases = slices.DeleteFunc(m.leases, func(l matching.Lease) bool { return l.Task.Run == n })
			delete(m.minds, n)
			continue
		}
		if k, _, _ := s.Task(); k == run.Scheduled {
			m.wait(flow(n), m.minds[n])
		}
		for _, a := range s.Activities() {
			if _, later := m.again[activity(n, a.ID)]; !later {
				m.wait(activity(n, a.ID), 0)
			}
		}
	}
}

// write: events of a run are there; what somebody had and is over by that they have no more.
func (m *told) write(n int, list []api.Event) {
	m.histories[n] = append(m.histories[n], list...)
	s := m.state(n)
	over := func(t queue.Task) bool {
		if t.Run != n {
			return false
		}
		if t.Kind == queue.Workflow {
			k, _, _ := s.Task()
			return k != run.Started
		}
		_, open := s.Activity(t.ID)
		return !open
	}
	m.leases = slices.DeleteFunc(m.leases, func(l matching.Lease) bool { return over(l.Task) })
	for t := range m.again {
		if t.Kind == queue.Activity && (over(t) || s.Closed() && t.Run == n) {
			delete(m.again, t)
		}
	}
	m.wake()
}

func (m *told) outside(n int, e api.Event) api.Errno {
	list, code := m.state(n).Outside(e)
	if code == api.OK {
		m.write(n, list)
	}
	return code
}

func (m *told) retry(n int, why string) api.Errno {
	list, code := m.state(n).Retry(why)
	if code == api.OK {
		m.write(n, list)
	}
	return code
}

// begin: a run of a workflow begins now.
func (m *told) begin(name string, e api.Event) (int, api.Errno) {
	e.ID, e.Time = 0, m.now
	list, code := new(run.State).Outside(e)
	if code != api.OK {
		return 0, code
	}
	n := m.next
	m.next, m.names[n] = n+1, name
	m.write(n, list)
	return n, api.OK
}

func (m *told) start(name, program string, input api.Value, ticks int64, again string) (int, api.Errno) {
	if m.programs[program] == nil {
		return 0, api.ErrMissing
	}
	if _, e := cron.Parse(again); e != api.OK && again != "" {
		return 0, e
	}
	if n := m.last(name); n > 0 && !m.state(n).Closed() {
		return 0, api.ErrBusy
	}
	return m.begin(name, api.Event{Kind: api.RunStarted, A: ticks, Name: program, Text: again, Value: input})
}

func (m *told) send(name string, e api.Event) api.Errno {
	n := m.last(name)
	if n == 0 {
		return api.ErrMissing
	}
	e.Time = m.now
	return m.outside(n, e)
}

func (m *told) forget(n int) api.Errno {
	switch {
	case m.histories[n] == nil:
		return api.ErrMissing
	case !m.state(n).Closed():
		return api.ErrState
	}
	delete(m.histories, n)
	delete(m.names, n)
	m.wake()
	return api.OK
}

// take: a worker gets the first task of a kind.
func (m *told) take(id, kind int) (matching.Lease, api.Errno) {
	if id < 1 || id > 64 {
		return matching.Lease{}, api.ErrRange
	}
	for _, worker := range []int{id, 0} {
		for i, p := range m.waiting {
			if p.worker != worker || p.task.Kind != kind {
				continue
			}
			m.waiting = slices.Delete(m.waiting, i, i+1)
			m.given++
			l := matching.Lease{Token: m.given, Task: p.task, Worker: id, Until: m.now + 20}
			m.leases = append(m.leases, l)
			return l, api.OK
		}
	}
	return matching.Lease{}, api.ErrMissing
}

func (m *told) poll(id int) (matching.Lease, api.Errno) {
	l, e := m.take(id, queue.Workflow)
	if e != api.OK {
		return l, e
	}
	n := l.Task.Run
	list, _ := m.state(n).Start(int64(id))
	m.write(n, list)
	m.minds[n] = id
	if m.programs[m.state(n).Program()] == nil {
		m.retry(n, "no program")
		return matching.Lease{}, api.ErrOther
	}
	return l, api.OK
}

func (m *told) get(token uint64, kind int) (queue.Task, api.Errno) {
	for _, l := range m.leases {
		if l.Token == token && l.Task.Kind == kind && m.now < l.Until {
			return l.Task, api.OK
		}
	}
	return queue.Task{}, api.ErrToken
}

func (m *told) complete(token uint64, more bool, list []api.Command) api.Errno {
	t, e := m.get(token, queue.Workflow)
	if e != api.OK {
		return e
	}
	n := t.Run
	events, e := m.state(n).Complete(int64(m.next), more, list...)
	if e != api.OK {
		m.retry(n, "bad")
		return e
	}
	if last := len(list) - 1; last >= 0 && list[last].Kind == api.Again {
		// Both are there ahead of what is woken by that.
		first := m.histories[n][0]
		first.ID, first.Time, first.B, first.Value = 0, m.now, int64(n), list[last].Value
		begin, _ := new(run.State).Outside(first)
		m.histories[m.next], m.names[m.next] = begin, m.names[n]
		m.next++
	}
	m.write(n, events)
	return api.OK
}

func (m *told) fail(token uint64, why string) api.Errno {
	t, e := m.get(token, queue.Workflow)
	if e != api.OK {
		return e
	}
	if why == "" {
		why = "failed"
	}
	return m.retry(t.Run, why)
}

func (m *told) pollCall(id int) (matching.Lease, int, api.Errno) {
	l, e := m.take(id, queue.Activity)
	if e != api.OK {
		return l, 0, e
	}
	m.tried[l.Task]++
	return l, m.tried[l.Task], api.OK
}

func (m *told) completeCall(token uint64, v api.Value) api.Errno {
	t, e := m.get(token, queue.Activity)
	if e != api.OK {
		return e
	}
	return m.outside(t.Run, api.Event{Time: m.now, Kind: api.ActivityCompleted, A: t.ID, Value: v})
}

func (m *told) failCall(token uint64, why string) api.Errno {
	t, e := m.get(token, queue.Activity)
	switch {
	case e != api.OK:
		return e
	case len(why) > 64:
		return api.ErrLong
	}
	return m.lost(t, api.Event{Kind: api.ActivityFailed, Name: why})
}

// lost: a try of an activity is lost.
func (m *told) lost(t queue.Task, e api.Event) api.Errno {
	a, _ := m.state(t.Run).Activity(t.ID)
	if at, ok := policy.Of(a.Policy).Again(m.tried[t], m.now); ok {
		m.leases = slices.DeleteFunc(m.leases, func(l matching.Lease) bool { return l.Task == t })
		m.again[t] = at
		return api.OK
	}
	e.Time, e.A = m.now, t.ID
	return m.outside(t.Run, e)
}

// gone: nobody has these tasks any more.
func (m *told) gone(list []matching.Lease) {
	m.leases = slices.DeleteFunc(m.leases, func(l matching.Lease) bool { return slices.Contains(list, l) })
	for _, l := range list {
		if l.Task.Kind == queue.Activity {
			m.again[l.Task] = 1 << 62 // so that it isn't woken until it is told that it is lost
		}
	}
	for _, l := range list {
		if l.Task.Kind == queue.Workflow {
			m.retry(l.Task.Run, "")
			continue
		}
		delete(m.again, l.Task)
		m.lost(l.Task, api.Event{Kind: api.ActivityTimedOut})
	}
}

// free: tasks that wait for somebody wait for anybody, worker by worker.
func (m *told) free(holds func(place) bool) {
	for worker := 1; worker <= 64; worker++ {
		for _, p := range slices.Clone(m.waiting) {
			if p.worker == worker && holds(p) && m.room(0) {
				m.waiting = append(slices.DeleteFunc(m.waiting, func(q place) bool { return q == p }), place{p.task, 0, m.now})
			}
		}
	}
}

func (m *told) leasesOf(holds func(matching.Lease) bool) []matching.Lease {
	return slices.DeleteFunc(slices.Clone(m.leases), func(l matching.Lease) bool { return !holds(l) })
}

func (m *told) lose(id int) {
	maps.DeleteFunc(m.minds, func(_, worker int) bool { return worker == id })
	if id < 1 || id > 64 {
		return
	}
	m.free(func(p place) bool { return p.worker == id })
	m.gone(m.leasesOf(func(l matching.Lease) bool { return l.Worker == id }))
}

func (m *told) timers() *timers.Queue {
	q, e := timers.Of(m.histories)
	if e != api.OK {
		panic(e)
	}
	return q
}

func (m *told) tick(n int) api.Errno {
	if n < 0 || n > 1<<20 {
		return api.ErrRange
	}
	m.now += int64(n)
	for _, f := range m.timers().Fires(m.now) {
		if !m.state(f.Run).Closed() {
			m.outside(f.Run, f.Event)
		}
	}
	for _, l := range m.leasesOf(func(l matching.Lease) bool { return l.Task.Kind == queue.Activity }) {
		a, _ := m.state(l.Task.Run).Activity(l.Task.ID)
		if due, ok := policy.Of(a.Policy).Due(l.Until - 20); ok && due <= m.now {
			m.lost(l.Task, api.Event{Kind: api.ActivityTimedOut})
		}
	}
	m.free(func(p place) bool { return m.now-p.since >= 5 })
	m.gone(m.leasesOf(func(l matching.Lease) bool { return l.Until <= m.now }))
	for _, n := range m.runs() {
		if k, _, _ := m.state(n).Task(); k == run.Started && !m.had(flow(n)) && !m.state(n).Closed() {
			m.retry(n, "")
		}
	}
	for _, n := range m.runs() {
		for _, a := range m.state(n).Activities() {
			if at, later := m.again[activity(n, a.ID)]; later && at <= m.now {
				delete(m.again, activity(n, a.ID))
				m.wait(activity(n, a.ID), 0)
			}
		}
	}
	for _, n := range m.runs() {
		if at, ok := m.anew(n); ok && at <= m.now {
			first := m.histories[n][0]
			first.B = int64(n)
			m.begin(m.names[n], first)
		}
	}
	return api.OK
}

// anew: when a workflow begins again behind a run.
func (m *told) anew(n int) (int64, bool) {
	list := m.histories[n]
	kind := list[len(list)-1].Kind
	if m.last(m.names[n]) != n || kind != api.RunCompleted && kind != api.RunFailed && kind != api.RunTimedOut {
		return 0, false
	}
	heard := event.Erase(list...)
	heard = slices.DeleteFunc(heard, func(e api.Event) bool { return !event.Outside(e) })
	c, e := cron.Parse(list[0].Text)
	if e != api.OK {
		return 0, false
	}
	at, e := c.Next(heard[len(heard)-1].Time)
	return at, e == api.OK
}

func (m *told) due() (int64, bool) {
	var all []int64
	if at, ok := m.timers().Next(); ok {
		all = append(all, at)
	}
	for _, at := range m.again {
		all = append(all, at)
	}
	for n := range m.histories {
		if at, ok := m.anew(n); ok {
			all = append(all, at)
		}
	}
	if len(all) == 0 {
		return 0, false
	}
	return slices.Min(all), true
}

// pair is a server and what is told of it, and what the workers got.
type pair struct {
	t     *testing.T
	d     *disk.Disk
	x     *Engine
	m     *told
	r     *rand.Rand
	tasks []Task
	calls []Call
	did   string // what was called last
	codes map[string]int
}

func (p *pair) code(what string, got, want api.Errno) {
	p.t.Helper()
	p.did = what
	if got != want {
		p.t.Fatalf("%s: %v, want %v", what, got, want)
	}
	p.codes[fmt.Sprint(what[:2], int(got))]++
}

// look: all is as it is told.
func (p *pair) look() {
	p.t.Helper()
	x, m := p.x, p.m
	histories := x.Store().Histories()
	if x.Now() != m.now || len(histories) != len(m.histories) || x.Store().Next() != m.next {
		p.t.Fatalf("%s: the tick %d, %d runs, next %d, want %d, %d, %d", p.did, x.Now(), len(histories), x.Store().Next(), m.now, len(m.histories), m.next)
	}
	for n, list := range m.histories {
		if i := len(list); !slices.EqualFunc(histories[n], list, event.Same) {
			for ; i > 0 && (i > len(histories[n]) || !event.Same(histories[n][i-1], list[i-1])); i-- {
			}
			p.t.Fatalf("%s: the run %d has other events behind the first %d of %d: %v, want %v", p.did, n, i, len(list), histories[n][i:], list[i:])
		}
	}
	var waiting []queue.Task
	for worker := range 65 {
		for _, w := range m.waiting {
			if w.worker == worker {
				waiting = append(waiting, w.task)
			}
		}
	}
	if got := x.Match().Waiting(); !slices.Equal(got, waiting) {
		p.t.Fatalf("%s: Waiting: %v, want %v", p.did, got, waiting)
	}
	for _, w := range m.waiting {
		if worker, _ := x.Match().Where(w.task); worker != w.worker {
			p.t.Fatalf("%s: Where(%v): %d, want %d", p.did, w.task, worker, w.worker)
		}
	}
	if got := x.Match().Leases(); !slices.Equal(got, m.leases) || x.Match().Given() != m.given {
		p.t.Fatalf("%s: Leases: %v, want %v", p.did, got, m.leases)
	}
	due, some := x.Due()
	if at, ok := m.due(); due != at || some != ok {
		p.t.Fatalf("%s: Due: %d, %v, want %d, %v", p.did, due, some, at, ok)
	}
	if !timers.Same(x.Timers(), m.timers()) || !x.Right() {
		p.t.Fatalf("%s: not right", p.did)
	}
}

var garbage = [][]api.Command{
	{{Kind: 9}}, {{Kind: api.CancelTimer, A: 1}}, {{Kind: api.StartTimer, A: 1, B: 3}}, {{Kind: api.Schedule, A: 1, B: 16 * 3, Name: "g"}},
	{{Kind: api.Again, Value: value.Of(1)}}, {{Kind: api.Complete}}, {{Kind: api.Fail, Name: "g"}}, {{Kind: api.Schedule, A: 2, Name: "g"}, {Kind: api.Again}},
}

// work: a worker does something with what it got.
func (p *pair) work() {
	r := p.r
	id := []int{1, 1, 2, 2, 3, 3, 64, 0, 65}[r.Intn(9)]
	switch k := r.Intn(20); {
	case k < 6:
		task, e := p.x.Poll(id)
		l, f := p.m.poll(id)
		p.code("Poll", e, f)
		if task.Token != l.Token || task.Job.Run != l.Task.Run {
			p.t.Fatalf("Poll: %d of %d, want %v", task.Token, task.Job.Run, l)
		}
		if e == api.OK {
			p.tasks = append(p.tasks, task)
		}
	case k < 12 && len(p.tasks) > 0:
		task := p.tasks[len(p.tasks)-1-r.Intn(min(3, len(p.tasks)))]
		res, e := Wants(task)
		switch {
		case e != api.OK:
			p.code("Fail", p.x.Fail(task.Token, "oh"), p.m.fail(task.Token, "oh"))
			return
		case r.Intn(12) == 0:
			res.Commands = garbage[r.Intn(len(garbage))]
		case r.Intn(12) == 0 && len(res.Commands) > 0:
			res.Commands, res.More = res.Commands[:1], len(res.Commands) > 1
		}
		p.code("Complete", p.x.Complete(task.Token, res.More, res.Commands...), p.m.complete(task.Token, res.More, res.Commands))
	case k == 12 && len(p.tasks) > 0:
		task := p.tasks[len(p.tasks)-1-r.Intn(min(3, len(p.tasks)))]
		why := []string{"", "why"}[r.Intn(2)]
		p.code("Fail", p.x.Fail(task.Token, why), p.m.fail(task.Token, why))
	case k < 16:
		c, e := p.x.PollCall(id)
		l, try, f := p.m.pollCall(id)
		p.code("Calling", e, f)
		if c.Token != l.Token || c.Run != l.Task.Run || c.ID != l.Task.ID || c.Try != try {
			p.t.Fatalf("PollCall: %+v, want %v, %d", c, l, try)
		}
		if e == api.OK {
			p.calls = append(p.calls, c)
		}
	case len(p.calls) > 0:
		c := p.calls[len(p.calls)-1-r.Intn(min(4, len(p.calls)))]
		if k < 18 {
			p.code("End", p.x.CompleteCall(c.Token, value.Of(3)), p.m.completeCall(c.Token, value.Of(3)))
		} else {
			p.code("Wrong", p.x.FailCall(c.Token, "why"), p.m.failCall(c.Token, "why"))
		}
	}
}

// ask: somebody asks something of the server.
func (p *pair) ask(names []string) {
	r := p.r
	name := []string{"a", "b", "c", "d", "e"}[r.Intn(5)]
	program := names[r.Intn(len(names))]
	switch k := r.Intn(24); {
	case k < 8:
		again := []string{"", "", "", "* * * * *", "*/7 * * * *", "x", "0 0 30 2 *"}[r.Intn(7)]
		ticks := []int64{0, 0, 0, 6, 40, -1}[r.Intn(6)]
		n, e := p.x.Start(name, program, value.Of(2), ticks, again)
		i, f := p.m.start(name, program, value.Of(2), ticks, again)
		p.code("Start", e, f)
		if n != i {
			p.t.Fatalf("Start: %d, want %d", n, i)
		}
	case k < 16:
		p.code("Signal", p.x.Signal(name, "go", value.Of(1)), p.m.send(name, api.Event{Kind: api.SignalReceived, Name: "go", Value: value.Of(1)}))
	case k < 19:
		p.code("Cancel", p.x.Cancel(name), p.m.send(name, api.Event{Kind: api.CancelRequested}))
	case k == 19:
		p.code("Terminate", p.x.Terminate(name, "end"), p.m.send(name, api.Event{Kind: api.RunTerminated, Name: "end"}))
	default:
		n := 1 + r.Intn(p.m.next)
		if runs := p.m.runs(); len(runs) > 9 {
			n = runs[r.Intn(len(runs))]
		}
		p.code("Forget", p.x.Forget(n), p.m.forget(n))
	}
}

// pass: time passes, a worker is lost, or the server is opened anew, perhaps with fewer programs.
func (p *pair) pass() {
	r := p.r
	switch k := r.Intn(30); {
	case k < 24:
		n := []int{0, 1, 1, 1, 2, 3, 5, 20, -1}[r.Intn(9)]
		p.code("Tick", p.x.Tick(n), p.m.tick(n))
	case k < 27:
		id := []int{1, 2, 3, 0, 65}[r.Intn(5)]
		p.did = "Lose"
		want(p.t, "Lose", p.x.Lose(id), api.OK)
		p.m.lose(id)
	case k < 29:
		p.did = "Open"
		p.x = open(p.t, p.d, p.m.programs, p.m.now)
		p.m.reopen()
	default:
		p.did = "programs"
		if p.m.programs.Add(parsed(p.t, "b", mixed)) == api.ErrTwice {
			delete(p.m.programs, "b")
		}
	}
}

// mixed sleeps, hears signals, and has activities done, and goes on as a new run.
const mixed = "push 4; timer; store 0; input; push 16777263; call \"pay\"; store 1; load 0; either \"go\"; unless slept; load 0; cancel; pop; slept:; pop; load 1; join; pop; pop; signal \"go\"; again"

// P25.1 to P25.8: what is called by chance comes to what is told.
func TestSteps(t *testing.T) {
	r := rand.New(rand.NewSource(25))
	codes := map[string]int{}
	for round := range 16 {
		programs := all(t)
		programs.Add(parsed(t, "b", mixed))
		programs.Add(parsed(t, "c", "push 2; push 2097; call \"a\"; push 2; push 19; call \"b\"; join; pop; pop; join; pop; return"))
		names := append(slices.Sorted(maps.Keys(programs)), "none")
		d := newDisk(t, 4096)
		p := &pair{t: t, d: d, x: open(t, d, programs, 0), m: newTold(programs), r: r, codes: codes}
		for range 900 {
			switch k := r.Intn(20); {
			case k < 3+round%3:
				p.ask(names)
			case k < 17:
				p.work()
			default:
				p.pass()
			}
			p.look()
		}
	}
	for _, what := range []string{"St0", "St4", "Si0", "Si4", "Si181", "Ca0", "Te0", "Fo0", "Fo7", "Fo4", "Po0", "Po1", "Po4", "Po150", "Co0", "Co210", "Fa0", "Fa210", "En0", "En210", "Wr0", "Wr210", "Ti0"} {
		if codes[what] == 0 {
			t.Errorf("%s never came", what)
		}
	}
}
