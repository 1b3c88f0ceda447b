package command

import (
	"math"

	"foliot/api"
	"foliot/event"
	"foliot/value"
	"foliot/wire"
)

// Encode: commands' bytes, as those of one task.
func Encode(list ...api.Command) ([]byte, api.Errno) {
	if e := All(list...); e != api.OK {
		return nil, e
	}
	var w wire.Writer
	w.Num(uint64(len(list)))
	for _, c := range list {
		write(&w, c)
	}
	return w.Bytes(), api.OK
}

func write(w *wire.Writer, c api.Command) {
	s := about(c.Kind)
	w.Byte(byte(c.Kind))
	w.Num(uint64(c.Time))
	if s.has('A') {
		w.Num(uint64(c.A))
	}
	if s.has('B') {
		w.Num(uint64(c.B))
	}
	if s.has('N') {
		w.Text(c.Name)
	}
	if s.has('V') {
		value.Write(w, c.Value)
	}
}

// Decode: the commands that bytes are.
func Decode(b []byte) ([]api.Command, api.Errno) {
	r := wire.Read(b)
	var list []api.Command
	for range r.Num(MaxMany) {
		list = append(list, read(r))
	}
	e := r.End()
	if e == api.OK {
		e = All(list...)
	}
	if e != api.OK {
		return nil, e
	}
	return list, api.OK
}

// read: the next command; behind an error what is answered doesn't count.
func read(r *wire.Reader) api.Command {
	c := api.Command{Kind: int(r.Byte())}
	if !known(c.Kind) {
		r.Fail(api.ErrKind)
	}
	s := about(c.Kind)
	c.Time = int64(r.Num(event.MaxTime))
	if s.has('A') {
		c.A = int64(r.Num(math.MaxInt64))
	}
	if s.has('B') {
		c.B = int64(r.Num(math.MaxInt64))
	}
	if s.has('N') {
		c.Name = r.Text()
	}
	if s.has('V') {
		c.Value = value.Read(r)
	}
	if r.Err() == api.OK {
		r.Fail(Check(c))
	}
	return c
}
