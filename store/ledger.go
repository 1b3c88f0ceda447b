package store

import (
	"foliot/api"
	"foliot/event"
	"foliot/history"
)

// entry is a run that is kept: its workflow, which run of that it is, and its history.
type entry struct {
	name    string
	place   int
	history *history.History
}

// ledger is all that is kept of runs, and of those that are forgotten.
type ledger struct {
	runs map[int]entry
	had  map[string]int // how many runs each workflow had
	next int            // the number that the next run gets
}

func newLedger() *ledger {
	return &ledger{runs: map[int]entry{}, had: map[string]int{}, next: 1}
}

// change makes a change: it answers that with the numbers that its run and its events have, and what takes it back, as long as what was made behind it is taken back already.
func (l *ledger) change(c Change) (Change, func(), api.Errno) {
	switch c.Kind {
	case Begin:
		return l.begin(c)
	case Append:
		return l.extend(c)
	case Delete:
		return l.forget(c)
	}
	return Change{}, nil, api.ErrKind
}

// begin: there is a new run.
func (l *ledger) begin(c Change) (Change, func(), api.Errno) {
	n := l.next
	switch {
	case len(c.Name) > event.MaxName:
		return Change{}, nil, api.ErrLong
	case c.Run != 0 && c.Run != n:
		return Change{}, nil, api.ErrTwice
	case len(l.runs) >= MaxRuns, n >= MaxNumber:
		return Change{}, nil, api.ErrFull
	case len(c.Events) == 0:
		return Change{}, nil, api.ErrShort
	}
	h := history.New(history.Seed(c.Name, n))
	list, e := h.Append(c.Events...)
	if e != api.OK {
		return Change{}, nil, e
	}
	l.had[c.Name]++
	l.runs[n] = entry{c.Name, l.had[c.Name], h}
	l.next++
	return Change{Begin, n, c.Name, list}, func() { l.unbegin(n) }, api.OK
}

// unbegin: the last run had never begun.
func (l *ledger) unbegin(n int) {
	name := l.runs[n].name
	l.next = n
	delete(l.runs, n)
	l.had[name]--
	if l.had[name] == 0 {
		delete(l.had, name)
	}
}

// find: the run that is to get events, or to be forgotten.
func (l *ledger) find(c Change) (entry, api.Errno) {
	if c.Name != "" || c.Kind == Delete && len(c.Events) > 0 {
		return entry{}, api.ErrForm
	}
	x, ok := l.runs[c.Run]
	if !ok {
		return entry{}, api.ErrMissing
	}
	return x, api.OK
}

// extend: a run has more events.
func (l *ledger) extend(c Change) (Change, func(), api.Errno) {
	x, e := l.find(c)
	if e != api.OK {
		return Change{}, nil, e
	}
	n := x.history.Len()
	c.Events, e = x.history.Append(c.Events...)
	if e != api.OK {
		return Change{}, nil, e
	}
	return c, func() { x.history.Cut(n) }, api.OK
}

// forget: a run that is over is forgotten.
func (l *ledger) forget(c Change) (Change, func(), api.Errno) {
	x, e := l.find(c)
	if e != api.OK {
		return Change{}, nil, e
	}
	if !x.history.Closed() {
		return Change{}, nil, api.ErrState
	}
	delete(l.runs, c.Run)
	return c, func() { l.runs[c.Run] = x }, api.OK
}
