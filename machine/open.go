package machine

import (
	"slices"

	"foliot/api"
)

// thing is a timer or an activity that was begun, and that nobody took yet.
type thing struct {
	kind    int // ForTimer or ForActivity
	id      int64
	over    bool
	outcome int64 // of an activity that is over, as its result
	result  api.Value
}

// begin: the next timer or activity; its number.
func (m *Machine) begin(kind int) int64 {
	next := &m.timers
	if kind == ForActivity {
		next = &m.activities
	}
	*next++
	m.open = append(m.open, thing{kind: kind, id: *next})
	return *next
}

// place: where a timer or an activity stands; -1: there is none of that number.
func (m *Machine) place(kind int, id int64) int {
	return slices.IndexFunc(m.open, func(t thing) bool { return t.kind == kind && t.id == id })
}

// named: where the timer or the activity stands whose number a value is; -1: there is none.
func (m *Machine) named(kind int, v api.Value) int {
	if v.Kind != api.Int {
		return -1
	}
	return m.place(kind, v.N)
}

// end: a timer or an activity is over, if it was begun, and isn't over or taken yet.
func (m *Machine) end(t thing) {
	if i := m.place(t.kind, t.id); i >= 0 && !m.open[i].over {
		t.over = true
		m.open[i] = t
	}
}

// under: is there a timer or an activity whose number a value is, and which isn't over?
func (m *Machine) under(kind int, v api.Value) bool {
	i := m.named(kind, v)
	return i >= 0 && !m.open[i].over
}

// take: the timer or the activity whose number a value is; from now on there is none of that number. False: there was none, and the program went wrong.
func (m *Machine) take(kind int, v api.Value) (thing, bool) {
	i := m.named(kind, v)
	if i < 0 {
		m.fall("gone")
		return thing{}, false
	}
	t := m.open[i]
	m.open = slices.Delete(m.open, i, i+1)
	return t, true
}

// queue: where the signals of a name wait; -1: the program never asks for one of that name.
func (m *Machine) queue(name string) int { return slices.Index(m.image.Names, name) }

// hear: a signal waits, behind the others.
func (m *Machine) hear(name string, v api.Value) {
	if i := m.queue(name); i >= 0 {
		m.signals[i] = append(m.signals[i], v)
	}
}

// heard: does a signal wait, of that one of the program's names?
func (m *Machine) heard(name int) bool { return len(m.signals[m.queue(m.image.Names[name])]) > 0 }

// listen: the first signal of that one of the program's names, which doesn't wait any more; nil and false: there is none.
func (m *Machine) listen(name int) (api.Value, bool) {
	if !m.heard(name) {
		return api.Value{}, false
	}
	i := m.queue(m.image.Names[name])
	v := m.signals[i][0]
	m.signals[i] = m.signals[i][1:]
	return v, true
}
