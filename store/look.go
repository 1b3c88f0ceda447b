package store

import (
	"maps"
	"slices"

	"foliot/api"
)

// numbers: those of all runs, rising.
func (l *ledger) numbers() []int { return slices.Sorted(maps.Keys(l.runs)) }

// info: what is known of a run that is there.
func (l *ledger) info(n int) Info {
	x := l.runs[n]
	return Info{Run: n, Name: x.name, Place: x.place, Len: x.history.Len(), Closed: x.history.Closed()}
}

// Next: the number that the next run gets.
func (s *Store) Next() int { return s.ledger.next }

// Info: what is known of a run.
func (s *Store) Info(run int) (Info, api.Errno) {
	if _, ok := s.ledger.runs[run]; !ok {
		return Info{}, api.ErrMissing
	}
	return s.ledger.info(run), api.OK
}

// Runs: what is known of all runs, by their numbers.
func (s *Store) Runs() []Info {
	var list []Info
	for _, n := range s.ledger.numbers() {
		list = append(list, s.ledger.info(n))
	}
	return list
}

// Find: the last run of a workflow; 0: there is none.
func (s *Store) Find(name string) int {
	last := 0
	for n, x := range s.ledger.runs {
		if x.name == name {
			last = max(last, n)
		}
	}
	return last
}

// Page: at most so many events of a run, from a number on.
func (s *Store) Page(run, from, most int) ([]api.Event, api.Errno) {
	x, ok := s.ledger.runs[run]
	if !ok {
		return nil, api.ErrMissing
	}
	return x.history.Page(from, most)
}

// All: all events of a run.
func (s *Store) All(run int) []api.Event {
	x, ok := s.ledger.runs[run]
	if !ok {
		return nil
	}
	return x.history.All()
}

// Sum: the sum of a run's chain.
func (s *Store) Sum(run int) (api.Sum, api.Errno) {
	x, ok := s.ledger.runs[run]
	if !ok {
		return api.Sum{}, api.ErrMissing
	}
	return x.history.Sum(), api.OK
}

// Histories: the events of all runs, by their numbers.
func (s *Store) Histories() map[int][]api.Event {
	all := map[int][]api.Event{}
	for n, x := range s.ledger.runs {
		all[n] = x.history.All()
	}
	return all
}
