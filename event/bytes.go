package event

import (
	"math"

	"foliot/api"
	"foliot/sum"
	"foliot/value"
	"foliot/wire"
)

// Write: an event behind what is written: what it has, field by field.
func Write(w *wire.Writer, e api.Event) {
	_, f := about(e.Kind)
	w.Byte(byte(e.Kind))
	w.Num(uint64(e.ID), uint64(e.Time))
	if f.has('A') {
		w.Num(uint64(e.A))
	}
	if f.has('B') {
		w.Num(uint64(e.B))
	}
	if f.has('N') {
		w.Text(e.Name)
	}
	if f.has('T') {
		w.Text(e.Text)
	}
	if f.has('V') {
		value.Write(w, e.Value)
	}
}

// Read: the next event.
func Read(r *wire.Reader) api.Event {
	e := readKind(r)
	e.ID = int(r.Num(MaxID))
	e.Time = int64(r.Num(MaxTime))
	readFields(r, &e)
	if r.Err() == api.OK {
		r.Fail(Check(e))
	}
	if r.Err() != api.OK {
		return api.Event{}
	}
	return e
}

// readKind: an event of the next byte's kind.
func readKind(r *wire.Reader) api.Event {
	kind := int(r.Byte())
	if !known(kind) {
		r.Fail(api.ErrKind)
	}
	return api.Event{Kind: kind}
}

// readFields reads what an event's kind has into it.
func readFields(r *wire.Reader, e *api.Event) {
	_, f := about(e.Kind)
	if f.has('A') {
		e.A = int64(r.Num(math.MaxInt64))
	}
	if f.has('B') {
		e.B = int64(r.Num(math.MaxInt64))
	}
	if f.has('N') {
		e.Name = r.Text()
	}
	if f.has('T') {
		e.Text = r.Text()
	}
	if f.has('V') {
		e.Value = value.Read(r)
	}
}

// Encode: an event's bytes.
func Encode(e api.Event) ([]byte, api.Errno) {
	if err := Check(e); err != api.OK {
		return nil, err
	}
	var w wire.Writer
	Write(&w, e)
	return w.Bytes(), api.OK
}

// Decode: the event that bytes are.
func Decode(b []byte) (api.Event, api.Errno) {
	r := wire.Read(b)
	e := Read(r)
	if err := r.End(); err != api.OK {
		return api.Event{}, err
	}
	return e, api.OK
}

// Link: a chain's sum behind an event.
func Link(prev api.Sum, e api.Event) (api.Sum, api.Errno) {
	b, err := Encode(e)
	if err != api.OK {
		return api.Sum{}, err
	}
	return sum.Link(prev, b), api.OK
}
