package audit

import (
	"foliot/api"
	"foliot/cluster"
	"foliot/matching"
)

const (
	mostTicks = 1 << 20 // that pass at a time
	eighth    = 8       // time passes then, even if there is something to do
	enough    = 3       // times in which there was nothing to do
)

// Drive: workers do all tasks and activities (these come to a result), and time goes on, until nothing is to be done any more, or so many times: how many were, and whether nothing is.
func Drive(c *cluster.Cluster, result api.Value, most int) (int, bool) {
	quiet := 0
	for n := range most {
		did := round(c, result)
		due, some := c.Engine().Due()
		switch {
		case did:
			quiet = 0
		case !some:
			quiet++
		}
		if quiet == enough {
			return n, true
		}
		if did && (n+1)%eighth != 0 {
			continue
		}
		ticks := int64(matching.LeaseTime)
		if some {
			ticks = min(max(due-c.Engine().Now(), 1), mostTicks)
		}
		if c.Do(cluster.Step{Kind: cluster.Tick, N: ticks}).Code != api.OK {
			return n, false
		}
	}
	return most, false
}

// round: each worker does all that there is for it; false: there was nothing.
func round(c *cluster.Cluster, result api.Value) bool {
	did := false
	for i := range c.Workers() {
		// It may have something already; so what it has is done ahead of what it takes.
		for _, kind := range [5]int{cluster.Done, cluster.Work, cluster.End, cluster.Call, cluster.End} {
			if c.Do(cluster.Step{Kind: kind, Worker: i + 1, Value: result}).Code == api.OK {
				did = true
			}
		}
	}
	return did
}
