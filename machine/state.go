package machine

import (
	"foliot/api"
	"foliot/value"
	"foliot/wire"
)

// State: all that it is, as bytes: two that have the same do the same from now on. What was taken isn't in it.
func (m *Machine) State() []byte {
	var w wire.Writer
	w.Num(uint64(m.at), uint64(m.kind), uint64(m.count), uint64(m.steps))
	w.Int(m.tick, m.timers, m.activities)
	w.Text(m.trap)
	value.Write(&w, value.Bool(m.asked))
	value.Write(&w, m.input)
	writeValues(&w, m.places)
	writeValues(&w, m.values)
	for _, queue := range m.signals { // as many as the program has names
		writeValues(&w, queue)
	}
	w.Num(uint64(len(m.open)))
	for _, t := range m.open {
		w.Num(uint64(t.kind))
		w.Int(t.id, t.outcome)
		value.Write(&w, value.Bool(t.over))
		value.Write(&w, t.result)
	}
	w.Num(uint64(len(m.made)))
	for _, c := range m.made {
		w.Num(uint64(c.Kind))
		w.Int(c.Time, c.A, c.B)
		w.Text(c.Name)
		value.Write(&w, c.Value)
	}
	return w.Bytes()
}

func writeValues(w *wire.Writer, list []api.Value) {
	w.Num(uint64(len(list)))
	for _, v := range list {
		value.Write(w, v)
	}
}
