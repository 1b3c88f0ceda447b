package history

import (
	"foliot/api"
	"foliot/event"
	"foliot/wire"
)

// Write: a history behind what is written: the seed, the events, the last sum.
func Write(w *wire.Writer, h *History) {
	w.Sum(h.seed)
	w.Num(uint64(h.Len()))
	for _, s := range h.steps {
		event.Write(w, s.event)
	}
	w.Sum(h.Sum())
}

// Read: the next history; one whose last sum isn't its own is none.
func Read(r *wire.Reader) *History {
	h := New(r.Sum())
	for range r.Num(MaxEvents) {
		e := event.Read(r)
		if r.Err() != api.OK {
			return nil
		}
		if code := h.Check(e); code != api.OK {
			r.Fail(code)
			return nil
		}
		h.add(e)
	}
	if last := r.Sum(); last != h.Sum() {
		r.Fail(api.ErrSum) // ErrShort, whose sum is another one too, came first and stays
	}
	if r.Err() != api.OK {
		return nil
	}
	return h
}

// Bytes: how many bytes a history takes where it is written.
func (h *History) Bytes() int {
	var w wire.Writer
	Write(&w, h)
	return w.Len()
}
