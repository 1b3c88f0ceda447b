package queue

// link is a thing, between the one ahead of it and the one behind it.
type link[T any] struct {
	thing         T
	ahead, behind *link[T]
}

// chain is things, one behind the other. The zero one has none.
type chain[T any] struct {
	first, last *link[T]
}

// hang: a thing is there, behind the others: its link.
func (c *chain[T]) hang(thing T) *link[T] {
	l := &link[T]{thing: thing, ahead: c.last}
	if c.last == nil {
		c.first = l
	} else {
		c.last.behind = l
	}
	c.last = l
	return l
}

// loose: a link isn't there any more, and those beside it hang together.
func (c *chain[T]) loose(l *link[T]) {
	if l.ahead == nil {
		c.first = l.behind
	} else {
		l.ahead.behind = l.behind
	}
	if l.behind == nil {
		c.last = l.ahead
	} else {
		l.behind.ahead = l.ahead
	}
}

// things: all of them, in order.
func (c *chain[T]) things() []T {
	var list []T
	for l := c.first; l != nil; l = l.behind {
		list = append(list, l.thing)
	}
	return list
}
