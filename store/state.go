package store

import (
	"maps"
	"slices"

	"foliot/api"
	"foliot/history"
	"foliot/wire"
)

// State: all that is kept, as bytes.
func (s *Store) State() []byte {
	l := s.ledger
	var w wire.Writer
	w.Num(uint64(l.next))
	w.Num(uint64(len(l.had)))
	for _, name := range slices.Sorted(maps.Keys(l.had)) {
		w.Text(name)
		w.Num(uint64(l.had[name]))
	}
	w.Num(uint64(len(l.runs)))
	for _, n := range l.numbers() {
		x := l.runs[n]
		w.Num(uint64(n))
		w.Text(x.name)
		w.Num(uint64(x.place))
		history.Write(&w, x.history)
	}
	return w.Bytes()
}

// readState: the ledger whose State bytes are.
func readState(b []byte) (*ledger, api.Errno) {
	r := wire.Read(b)
	l := newLedger()
	l.next = int(r.Num(MaxNumber))
	l.readHad(r)
	l.readRuns(r)
	if e := r.End(); e != api.OK {
		return nil, e
	}
	return l, api.OK
}

// readHad: how many runs each workflow had.
func (l *ledger) readHad(r *wire.Reader) {
	for range r.Num(MaxNumber) {
		name, n := r.Text(), int(r.Num(MaxNumber))
		if r.Err() != api.OK {
			return // of a wrong count it could be long to the end
		}
		l.had[name] = n
	}
}

func (l *ledger) readRuns(r *wire.Reader) {
	for range r.Num(MaxRuns) {
		n, name, place := int(r.Num(MaxNumber)), r.Text(), int(r.Num(MaxNumber))
		h := history.Read(r)
		if h == nil {
			return
		}
		l.runs[n] = entry{name, place, h}
	}
}
