package worker

import (
	"foliot/api"
	"foliot/replay"
)

// Answer is what is told of a run's program.
type Answer struct {
	Waits int
	ID    int64
	Name  string
	Made  int
	Trap  string
}

// Query: what a program that is run over a history waits for, how many commands it made, and whether it went wrong; nothing is remembered by that.
func Query(p api.Image, list ...api.Event) (Answer, api.Errno) {
	r, e := replay.Replay(p, list...)
	if e != api.OK {
		return Answer{}, e
	}
	a := Answer{Made: len(r.Made()), Trap: r.Trap()}
	a.Waits, a.ID, a.Name = r.Waits()
	return a, api.OK
}
