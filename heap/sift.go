package heap

import "cmp"

// order: how two things stand, by when they are due, then by the numbers that they got.
func order(a, b Item) int {
	return cmp.Or(cmp.Compare(a.Due, b.Due), cmp.Compare(a.Seq, b.Seq))
}

func before(a, b Item) bool { return order(a, b) < 0 }

// above: the place above one that isn't the top.
func above(i int) int { return (i - 1) / 2 }

// below: the two places below one.
func below(i int) [2]int { return [2]int{2*i + 1, 2*i + 2} }

// up: what stands at a place goes up past all that are later.
func (h *Heap) up(i int) {
	for i > 0 && before(h.items[i], h.items[above(i)]) {
		h.swap(i, above(i))
		i = above(i)
	}
}

// down: what stands at a place goes down past all that are earlier.
func (h *Heap) down(i int) {
	for {
		first := i
		for _, j := range below(i) {
			if j < len(h.items) && before(h.items[j], h.items[first]) {
				first = j
			}
		}
		if first == i {
			return
		}
		h.swap(i, first)
		i = first
	}
}

// swap: two things change places.
func (h *Heap) swap(i, j int) {
	h.items[i], h.items[j] = h.items[j], h.items[i]
	h.places[h.items[i].Key], h.places[h.items[j].Key] = i, j
}

// remove: the thing at a place isn't there any more.
func (h *Heap) remove(i int) Item {
	it, last := h.items[i], len(h.items)-1
	h.swap(i, last)
	h.items = h.items[:last]
	delete(h.places, it.Key)
	if i < last { // the one that was last may be too early for the place, or too late
		h.up(i)
		h.down(i)
	}
	return it
}

// gather: a list, and behind it those from a place on downwards that are due at a tick, in no order. Nothing below one that isn't due is.
func (h *Heap) gather(list []Item, i int, now int64) []Item {
	if i >= len(h.items) || h.items[i].Due > now {
		return list
	}
	list = append(list, h.items[i])
	for _, j := range below(i) {
		list = h.gather(list, j, now)
	}
	return list
}
