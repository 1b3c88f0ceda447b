package disk

import "sync/atomic"

// counts is how often something was done.
type counts struct {
	writes, flushes atomic.Int64
}

func (c *counts) countWrite() { c.writes.Add(1) }

func (c *counts) countFlush() { c.flushes.Add(1) }

// Writes, Flushes: how many there were.
func (c *counts) Writes() int64 { return c.writes.Load() }

func (c *counts) Flushes() int64 { return c.flushes.Load() }
