package matching

import "sync/atomic"

// tokens is how many tokens were given.
type tokens struct {
	given atomic.Uint64
}

// next: one more is given.
func (t *tokens) next() uint64 { return t.given.Add(1) }

// Given: how many tokens there were.
func (t *tokens) Given() uint64 { return t.given.Load() }
