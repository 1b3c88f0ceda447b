package machine

import "foliot/api"

// stack is the values on a program's stack, the last one on top. That it never has too few or too many was asked ahead of the run.
type stack struct {
	values []api.Value
}

// push: values onto the stack, the last one on top.
func (s *stack) push(list ...api.Value) { s.values = append(s.values, list...) }

// top: the value on top, which stays there.
func (s *stack) top() api.Value { return s.values[len(s.values)-1] }

// pop: the value on top, which is gone then.
func (s *stack) pop() api.Value {
	v := s.top()
	s.values = s.values[:len(s.values)-1]
	return v
}

// pair: the last two values, which are gone then.
func (s *stack) pair() (a, b api.Value) {
	b = s.pop()
	a = s.pop()
	return a, b
}

// cut: the last n values, which are gone then. Their memory is the caller's: the rest has no room left, so that what is pushed next doesn't come to stand in it.
func (s *stack) cut(n int) []api.Value {
	k := len(s.values) - n
	list := s.values[k:]
	s.values = s.values[:k:k]
	return list
}
