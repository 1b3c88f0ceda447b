package model

import (
	"slices"

	"foliot/api"
	"foliot/event"
	"foliot/replay"
)

// Fits: is a history one of a program: does a run that is alone, and to which the same comes from outside, want what was written of its commands, or more, in the same order?
func Fits(p api.Image, list ...api.Event) api.Errno {
	_, code := missing(p, list)
	return code
}

// Whole: is also nothing of it missing?
func Whole(p api.Image, list ...api.Event) bool {
	n, code := missing(p, list)
	return code == api.OK && n == 0
}

// missing: how many events that are to be written of a program's commands a history hasn't yet; or why it isn't one of that program.
func missing(p api.Image, list []api.Event) (int, api.Errno) {
	outside := replay.Outside(list...)
	if len(outside) == 0 {
		return 0, api.ErrShort
	}
	all, code := replay.Settle(p, outside...)
	if code != api.OK {
		return 0, code
	}
	made := replay.Made(list...)
	if !begins(made, all) {
		return 0, api.ErrOther
	}
	return len(all) - len(made), api.OK
}

// Agree: do two histories of one program, to which the same came from outside, agree: is what was written of the commands of one a beginning of what was of the other's? And did the same come?
func Agree(a, b []api.Event) (same, agree bool) {
	same = slices.EqualFunc(replay.Outside(a...), replay.Outside(b...), alike)
	first, second := replay.Made(a...), replay.Made(b...)
	return same, begins(first, second) || begins(second, first)
}

// begins: is one list a beginning of another one, but for the numbers?
func begins(a, b []api.Event) bool {
	return len(a) <= len(b) && slices.EqualFunc(a, b[:len(a)], alike)
}

// alike: are two events the same, but for the numbers?
func alike(a, b api.Event) bool { return event.Same(bare(a), bare(b)) }

// bare: an event without the numbers that who writes it tells: its own, and the next run's.
func bare(e api.Event) api.Event {
	e.ID = 0
	if e.Kind == api.ContinuedAsNew {
		e.B = 0
	}
	return e
}
