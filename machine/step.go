package machine

import (
	"math"
	"slices"

	"foliot/api"
	"foliot/image"
	"foliot/value"
)

// step does the next instruction; false: that waits.
func (m *Machine) step() bool {
	in := m.image.Code[m.at]
	if kind := m.lacks(in); kind != 0 {
		m.kind = kind
		return false
	}
	m.steps++
	m.at++
	m.do(in)
	return true
}

// lacks: what an instruction waits for; 0: nothing.
func (m *Machine) lacks(in api.Instr) int {
	switch {
	case in.Op == image.Wait && m.under(ForTimer, m.top()):
		return ForTimer
	case in.Op == image.Join && m.under(ForActivity, m.top()):
		return ForActivity
	case in.Op == image.Signal && !m.heard(in.A):
		return ForSignal
	case in.Op == image.Either && !m.heard(in.A) && m.under(ForTimer, m.top()):
		return ForEither
	}
	return 0
}

// do: an instruction that doesn't wait.
func (m *Machine) do(in api.Instr) {
	switch in.Op {
	case image.Jump:
		m.at = in.A
	case image.Unless:
		if !value.True(m.pop()) {
			m.at = in.A
		}
	case image.Same, image.Less, image.Not:
		m.push(value.Bool(m.ask(in.Op)))
	case image.Add, image.Sub, image.Mul:
		m.reckon(in.Op)
	case image.Pack:
		m.pushList(m.cut(in.A))
	case image.Item, image.Size, image.Cat:
		m.part(in.Op)
	case image.Timer, image.Call, image.Cancel:
		m.start(in)
	case image.Wait, image.Join, image.Either:
		m.collect(in)
	case image.Signal, image.Poll:
		m.receive(in)
	case image.Return:
		m.finish(api.Command{Kind: api.Complete, Value: m.pop()})
	case image.Again:
		m.finish(api.Command{Kind: api.Again, Value: m.pop()})
	case image.Fail:
		m.finish(api.Command{Kind: api.Fail, Name: m.image.Names[in.A]})
	default:
		m.move(in)
	}
}

// move: values as they are, onto the stack, within it, or from it.
func (m *Machine) move(in api.Instr) {
	switch in.Op {
	case image.Push:
		m.push(m.image.Consts[in.A])
	case image.Pop:
		m.pop()
	case image.Dup:
		m.push(m.top())
	case image.Swap:
		a, b := m.pair()
		m.push(b, a)
	case image.Load:
		m.push(m.places[in.A])
	case image.Store:
		m.places[in.A] = m.pop()
	case image.Input:
		m.push(m.input)
	case image.Now:
		m.push(value.Of(m.tick))
	case image.Asked:
		m.push(value.Bool(m.asked))
	}
}

// ask: what an instruction asks of the last values.
func (m *Machine) ask(op int) bool {
	if op == image.Not {
		return !value.True(m.pop())
	}
	a, b := m.pair()
	if op == image.Same {
		return value.Same(a, b)
	}
	return value.Compare(a, b) < 0
}

// reckon: a number of the last two.
func (m *Machine) reckon(op int) {
	a, b := m.pair()
	if a.Kind != api.Int || b.Kind != api.Int {
		m.fall("type")
		return
	}
	switch op {
	case image.Add:
		m.push(value.Of(a.N + b.N))
	case image.Sub:
		m.push(value.Of(a.N - b.N))
	case image.Mul:
		m.push(value.Of(a.N * b.N))
	}
}

// part: of lists and texts, what stands in one, how much, and one behind the other.
func (m *Machine) part(op int) {
	b := m.pop()
	switch {
	case op == image.Size && b.Kind == api.List:
		m.push(value.Of(int64(len(b.List))))
	case op == image.Size && b.Kind == api.Text:
		m.push(value.Of(int64(len(b.S))))
	case op == image.Size:
		m.fall("type")
	case op == image.Item:
		m.pick(m.pop(), b)
	case op == image.Cat:
		m.cat(m.pop(), b)
	}
}

// pick: the value of a list that stands at a number.
func (m *Machine) pick(a, b api.Value) {
	switch {
	case a.Kind != api.List || b.Kind != api.Int:
		m.fall("type")
	case b.N < 0 || b.N >= int64(len(a.List)):
		m.push(api.Value{})
	default:
		m.push(a.List[b.N])
	}
}

// cat: one text, or one list, of two.
func (m *Machine) cat(a, b api.Value) {
	switch {
	case a.Kind == api.Text && b.Kind == api.Text:
		m.pushMade(value.Text(a.S + b.S))
	case a.Kind == api.List && b.Kind == api.List:
		m.pushList(slices.Concat(a.List, b.List))
	default:
		m.fall("type")
	}
}

// pushList: a list of values.
func (m *Machine) pushList(list []api.Value) { m.pushMade(api.Value{Kind: api.List, List: list}) }

// pushMade: a value that was made of others, and may be too long now.
func (m *Machine) pushMade(v api.Value) {
	if value.Check(v) != api.OK {
		m.fall("long")
		return
	}
	m.push(v)
}

// start: a timer or an activity; or a timer isn't waited for any more.
func (m *Machine) start(in api.Instr) {
	b := m.pop()
	switch in.Op {
	case image.Timer:
		if m.room(b, math.MaxInt64) {
			id := m.begin(ForTimer)
			m.want(api.Command{Kind: api.StartTimer, A: id, B: b.N})
			m.push(value.Of(id))
		}
	case image.Call:
		a := m.pop()
		if m.room(b, MaxPolicy) {
			id := m.begin(ForActivity)
			m.want(api.Command{Kind: api.Schedule, A: id, B: b.N, Name: m.image.Names[in.A], Value: a})
			m.push(value.Of(id))
		}
	case image.Cancel:
		if t, ok := m.take(ForTimer, b); ok {
			if !t.over {
				m.want(api.Command{Kind: api.CancelTimer, A: t.id})
			}
			m.push(value.Bool(!t.over))
		}
	}
}

// room: may another thing be begun, by a number from 0 to most? False: it may not, and the program went wrong.
func (m *Machine) room(v api.Value, most int64) bool {
	switch {
	case v.Kind != api.Int || v.N < 0 || v.N > most:
		m.fall("range")
		return false
	case len(m.open) >= MaxOpen:
		m.fall("many")
		return false
	}
	return true
}

// collect: what became of a timer or an activity, or, ahead of that, a signal.
func (m *Machine) collect(in api.Instr) {
	b := m.pop()
	switch {
	case in.Op == image.Wait:
		if _, ok := m.take(ForTimer, b); ok {
			m.push(value.Of(m.tick))
		}
	case in.Op == image.Join:
		if t, ok := m.take(ForActivity, b); ok {
			m.push(t.result, value.Of(t.outcome))
		}
	case m.heard(in.A) && m.named(ForTimer, b) >= 0:
		v, _ := m.listen(in.A)
		m.push(v, value.Bool(true))
	default:
		if _, ok := m.take(ForTimer, b); ok {
			m.push(api.Value{}, value.Bool(false))
		}
	}
}

// receive: a signal, and whether there was one where that isn't sure.
func (m *Machine) receive(in api.Instr) {
	v, ok := m.listen(in.A)
	m.push(v)
	if in.Op == image.Poll {
		m.push(value.Bool(ok))
	}
}
