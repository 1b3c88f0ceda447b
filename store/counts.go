package store

import "sync/atomic"

// counts is how much was made durable.
type counts struct {
	batches, checkpoints atomic.Int64
}

func (c *counts) countBatches(n int) { c.batches.Add(int64(n)) }

func (c *counts) countCheckpoint() { c.checkpoints.Add(1) }

// Batches, Checkpoints: how many were made durable since the store was opened.
func (c *counts) Batches() int64 { return c.batches.Load() }

func (c *counts) Checkpoints() int64 { return c.checkpoints.Load() }
