package worker

import "sync/atomic"

// counts is how many tasks were of runs that were remembered, and how many weren't.
type counts struct {
	hits, misses atomic.Int64
}

func (c *counts) count(hit bool) {
	if hit {
		c.hits.Add(1)
	} else {
		c.misses.Add(1)
	}
}

// Hits, Misses: how many tasks were of runs that were remembered, and how many weren't.
func (c *counts) Hits() int64 { return c.hits.Load() }

func (c *counts) Misses() int64 { return c.misses.Load() }
