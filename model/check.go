package model

import (
	"foliot/api"
	"foliot/engine"
	"foliot/image"
	"foliot/store"
)

// Finding is what is wrong with a run.
type Finding struct {
	Run  int
	Code api.Errno
}

// Check: what is wrong with the runs of a store: their programs want something else, or they don't go on from one another as they should.
func Check(s *store.Store, programs engine.Programs) []Finding {
	var list []Finding
	for _, info := range s.Runs() {
		for _, code := range [2]api.Errno{checkProgram(s, info, programs), checkNext(s, info)} {
			if code != api.OK {
				list = append(list, Finding{info.Run, code})
			}
		}
	}
	return list
}

// checkProgram: what is wrong with a run, as its program has it.
func checkProgram(s *store.Store, info store.Info, programs engine.Programs) api.Errno {
	x := programs[at(s, info.Run, 1).Name]
	if x == nil {
		return api.ErrMissing
	}
	return Fits(x.Image(), s.All(info.Run)...)
}

// checkNext: what is wrong with the run in which another one goes on, if that does.
func checkNext(s *store.Store, info store.Info) api.Errno {
	last := at(s, info.Run, info.Len)
	if last.Kind != api.ContinuedAsNew {
		return api.OK
	}
	n := int(last.B)
	next, code := s.Info(n)
	if code != api.OK {
		if info.Run < n && n < s.Next() {
			return api.OK // it was there, and is forgotten
		}
		return api.ErrMissing
	}
	if next.Name != info.Name || next.Place <= info.Place || !goesOn(info.Run, at(s, info.Run, 1), at(s, n, 1)) {
		return api.ErrChain
	}
	return api.OK
}

// goesOn: does a run that begins with first go on in one that begins with next?
func goesOn(run int, first, next api.Event) bool {
	return next.Name == first.Name && next.Text == first.Text && next.A == first.A && next.B == int64(run)
}

// at: a run's event of a number; the zero one, if there is none.
func at(s *store.Store, run, id int) api.Event {
	list, _ := s.Page(run, id, 1)
	if len(list) == 0 {
		return api.Event{}
	}
	return list[0]
}

// Sorted: the runs of a workflow, by their numbers.
func Sorted(s *store.Store, name string) []int {
	var list []int
	for _, info := range s.Runs() {
		if info.Name == name {
			list = append(list, info.Run)
		}
	}
	return list
}

// Programs: those that may be run, by their names.
func Programs(list ...*image.Program) engine.Programs {
	programs := engine.Programs{}
	for _, x := range list {
		programs.Add(x) // what may not be run isn't among them
	}
	return programs
}
