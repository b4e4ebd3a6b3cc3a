package cluster

import "porter/api"

// still: where nothing came on for so many rounds nothing will: all that waits was given up long before.
const still = 1000

// pace is what changes as long as anything comes on: what is written, the calls in hand, and what they were told.
type pace struct {
	written, calls, users int
}

// Settle: nothing goes wrong any more: all nodes are up, packets are delivered in their order, all clocks go on; for so many rounds at most: is there nothing left to do?
func (c *Cluster) Settle(rounds int) bool {
	if !c.startAll() {
		return false
	}
	last, since := c.pace(), 0
	for ; !c.settled(); rounds-- {
		// Where a disk is full nothing may come on any more, and the rounds may be more than can ever be gone through.
		if rounds <= 0 || since == still {
			return false
		}
		c.round()
		since++
		if now := c.pace(); now != last {
			last, since = now, 0
		}
	}
	return true
}

// startAll: are all nodes up, those that weren't too?
func (c *Cluster) startAll() bool {
	up := true
	for at := range c.nodes {
		if e := c.Restart(at); e != api.OK && e != api.ErrTwice {
			up = false
		}
	}
	return up
}

// round: the packets on their way come to their nodes, and all clocks go on.
func (c *Cluster) round() {
	for range c.Len() {
		c.Deliver(0)
	}
	for at := range c.nodes {
		c.Tick(at)
	}
}

// settled: is nothing left to do?
func (c *Cluster) settled() bool {
	h := c.nodes[0].head
	_, version := h.mover.Table()
	for _, n := range c.nodes {
		if !n.settled(version) {
			return false
		}
	}
	return h.settled()
}

// settled: has a node nothing left to do, and does its share know the table of that version?
func (n *node) settled(version int64) bool {
	_, knows := n.share.Table()
	return len(n.writes)+len(n.queries)+len(n.share.Pending())+len(n.coord.Owed()) == 0 && knows == version
}

// pace: how far all has come.
func (c *Cluster) pace() pace {
	var p pace
	for at, n := range c.nodes {
		p.written += c.disks[at].Size()
		p.calls += len(n.writes) + len(n.queries)
		for _, q := range n.queries {
			p.users += len(q.users)
		}
	}
	return p
}
