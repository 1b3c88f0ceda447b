package verify

import (
	"foliot/api"
	"foliot/image"
)

// walk is all the ways that instructions go, from the first one on.
type walk struct {
	code    []api.Instr
	heights []int // ahead of each instruction; none: it wasn't come to yet
	met     []int // those that were come to, in the order in which they first were
}

// newWalk: a walk that came to the first instruction.
func newWalk(code []api.Instr) *walk {
	w := &walk{code: code, heights: make([]int, len(code)), met: []int{0}}
	for at := range len(code) {
		w.heights[at] = none
	}
	w.heights[0] = 0
	return w
}

// look goes all ways, and answers what is wrong first.
func (w *walk) look() Fault {
	for i := 0; i < len(w.met); i++ {
		at := w.met[i]
		if e := w.pass(at); e != api.OK {
			return Fault{At: at, Code: e}
		}
	}
	return Fault{At: none}
}

// pass goes by an instruction to those that may follow.
func (w *walk) pass(at int) api.Errno {
	takes, leaves := moves(w.code[at])
	behind := w.heights[at] - takes + leaves
	if w.heights[at] < takes || behind > MaxStack {
		return api.ErrStack
	}
	for _, next := range w.follow(at) {
		if e := w.come(next, behind); e != api.OK {
			return e
		}
	}
	return api.OK
}

// come to an instruction with so many values on the stack.
func (w *walk) come(at, height int) api.Errno {
	switch {
	case at == len(w.code):
		return api.ErrEnd
	case w.heights[at] == none:
		w.heights[at] = height
		w.met = append(w.met, at)
	case w.heights[at] != height:
		return api.ErrStack
	}
	return api.OK
}

// moves: how many values an instruction takes, and how many it leaves.
func moves(in api.Instr) (takes, leaves int) {
	info, _ := image.Of(in.Op)
	if in.Op == image.Pack {
		return in.A, info.Out
	}
	return info.In, info.Out
}

// follow: the instructions that may follow one, first the next one.
func (w *walk) follow(at int) []int {
	in := w.code[at]
	info, _ := image.Of(in.Op)
	switch {
	case info.Ends:
		return nil
	case in.Op == image.Jump:
		return []int{in.A}
	case in.Op == image.Unless:
		return []int{at + 1, in.A}
	}
	return []int{at + 1}
}

// spans: of each instruction how many are done from it on, at most, up to one that may wait, or ends the run; 0 of one that is never come to, or from which that may go on for ever.
func (w *walk) spans() []int {
	spans := make([]int, len(w.code))
	for found := true; found; {
		found = false
		for i := range len(w.code) {
			at := len(w.code) - 1 - i // what follows stands behind it, but where it goes back
			if w.heights[at] != none && spans[at] == 0 {
				spans[at] = w.span(at, spans)
				found = found || spans[at] > 0
			}
		}
	}
	return spans
}

// span: that of an instruction, by those of the ones that follow; 0, if one of them isn't known.
func (w *walk) span(at int, spans []int) int {
	if w.rests(at) {
		return 1
	}
	most := 0
	for _, next := range w.follow(at) {
		if spans[next] == 0 {
			return 0
		}
		most = max(most, spans[next])
	}
	return most + 1
}

// rests: may an instruction wait, or does it end the run?
func (w *walk) rests(at int) bool {
	info, _ := image.Of(w.code[at].Op)
	return info.Blocks || info.Ends
}

// round: the first instruction from which one comes back to it without waiting; -1: there is none. None of those that have a span is one.
func (w *walk) round(spans []int) int {
	for at := range len(w.code) {
		if w.heights[at] != none && spans[at] == 0 && w.returns(at) {
			return at
		}
	}
	return none
}

// returns: does one come back to an instruction without waiting?
func (w *walk) returns(start int) bool {
	seen := make([]bool, len(w.code))
	way := []int{start}
	for len(way) > 0 {
		at := way[len(way)-1]
		way = way[:len(way)-1]
		if w.rests(at) {
			continue
		}
		for _, next := range w.follow(at) {
			if next == start {
				return true
			}
			if !seen[next] {
				seen[next] = true
				way = append(way, next)
			}
		}
	}
	return false
}
