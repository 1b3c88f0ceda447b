package cluster

import (
	"foliot/api"
	"foliot/disk"
	"foliot/event"
	"foliot/value"
	"foliot/wire"
)

// Read: the next step of a script's bytes.
func Read(r *wire.Reader) Step {
	var s Step
	s.Kind, s.Worker = int(r.Byte()), int(r.Num(MaxWorkers))
	s.Name, s.Text, s.Again = r.Text(), r.Text(), r.Text()
	s.N, s.Keep = r.Int(), int(r.Num(disk.MaxSectors))
	s.Value = value.Read(r)
	if len(s.Name) > MaxName || len(s.Text) > MaxName || len(s.Again) > event.MaxText {
		r.Fail(api.ErrLong)
	}
	if r.Err() != api.OK {
		return Step{}
	}
	return s
}

// Write: a step behind what is written.
func Write(w *wire.Writer, s Step) {
	w.Byte(byte(s.Kind))
	w.Num(uint64(within(int64(s.Worker), MaxWorkers)))
	w.Text(s.Name)
	w.Text(s.Text)
	w.Text(s.Again)
	w.Int(s.N)
	w.Num(uint64(within(int64(s.Keep), disk.MaxSectors)))
	value.Write(w, s.Value)
}

// Play: a script of bytes, step by step, up to where it can't be read: what is answered to each.
func (c *Cluster) Play(script []byte) []Reply {
	var list []Reply
	r := wire.Read(script)
	for r.Left() > 0 {
		s := Read(r)
		if e := r.Err(); e != api.OK {
			return append(list, Reply{Code: e})
		}
		list = append(list, c.Do(s))
	}
	return list
}
