package store

import (
	"slices"

	"foliot/api"
	"foliot/event"
	"foliot/wal"
	"foliot/wire"
)

// draft is a batch that is made, and isn't durable yet.
type draft struct {
	at    int // its place in what Write was given
	bytes []byte
	undo  []func()
}

// takeBack: the draft had never been made.
func (d draft) takeBack() {
	for _, undo := range slices.Backward(d.undo) {
		undo()
	}
}

// takeBack: drafts, the last ones that were made, had never been.
func takeBack(list []draft) {
	for _, d := range slices.Backward(list) {
		d.takeBack()
	}
}

// cost: how many bytes drafts take at most in the log.
func cost(list []draft) int {
	n := 0
	for _, d := range list {
		n += wal.Cost(len(d.bytes))
	}
	return n
}

// makeAll: batches, one behind the other: what is wrong with each, and those with which nothing is.
func (l *ledger) makeAll(list []Batch) ([]api.Errno, []draft) {
	codes := make([]api.Errno, len(list))
	var drafts []draft
	for i, b := range list {
		d, e := l.makeOne(b)
		if e == api.OK {
			d.at = i
			drafts = append(drafts, d)
		}
		codes[i] = e
	}
	return codes, drafts
}

// makeOne: a batch is made, or nothing of it.
func (l *ledger) makeOne(b Batch) (draft, api.Errno) {
	if len(b) > MaxChanges {
		return draft{}, api.ErrLong
	}
	var d draft
	var w wire.Writer
	w.Num(uint64(len(b)))
	for _, c := range b {
		made, undo, e := l.change(c)
		if e != api.OK {
			d.takeBack()
			return draft{}, e
		}
		d.undo = append(d.undo, undo)
		writeChange(&w, made)
	}
	if w.Len() > wal.MaxData {
		d.takeBack()
		return draft{}, api.ErrLong
	}
	d.bytes = w.Bytes()
	return d, api.OK
}

func writeChange(w *wire.Writer, c Change) {
	w.Byte(byte(c.Kind))
	w.Num(uint64(c.Run))
	w.Text(c.Name)
	w.Num(uint64(len(c.Events)))
	for _, e := range c.Events {
		event.Write(w, e)
	}
}

// repeat: a batch that a log tells is made once more.
func (l *ledger) repeat(b []byte) api.Errno {
	list, e := readBatch(b)
	if e != api.OK {
		return e
	}
	_, e = l.makeOne(list)
	return e
}

// readBatch: the batch that bytes are.
func readBatch(b []byte) (Batch, api.Errno) {
	r := wire.Read(b)
	var list Batch
	for range r.Num(MaxChanges) {
		list = append(list, readChange(r))
	}
	return list, r.End()
}

// readChange: the next change; behind an error what is answered doesn't count.
func readChange(r *wire.Reader) Change {
	c := Change{Kind: int(r.Byte()), Run: int(r.Num(MaxNumber)), Name: r.Text()}
	for range r.Count() {
		c.Events = append(c.Events, event.Read(r))
	}
	return c
}
