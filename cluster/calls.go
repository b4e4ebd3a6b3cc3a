package cluster

import (
	"slices"

	"porter/api"
	"porter/code"
	"porter/tuple"
)

// The states of a call.
const (
	Pending = iota
	Done
	Failed
	Lost
)

// MaxWrite is how many mutations and conditions a write has at most.
const MaxWrite = 60

// Outcome is what has become of a call.
type Outcome struct {
	State int
	Code  api.Errno
	Rev   int64
	Users []string
}

// calls is what has become of the calls, and which transactions were committed for which.
type calls struct {
	outcomes []Outcome
	commits  map[int64]int
}

func newCalls() *calls { return &calls{commits: map[int64]int{}} }

// add: the number of a new call.
func (c *calls) add() int {
	c.outcomes = append(c.outcomes, Outcome{})
	return len(c.outcomes) - 1
}

// of: the call for which a transaction was committed; -1, if none is known.
func (c *calls) of(id int64) int {
	if call, found := c.commits[id]; found {
		return call
	}
	return -1
}

// Write: a call: some tuples are put or taken away, if some conditions hold.
func (c *Cluster) Write(at int, muts []api.Mutation, pre ...api.Condition) (int, api.Errno) {
	n, e := c.at(at)
	if e == api.OK {
		e = fault(muts, pre)
	}
	if e != api.OK {
		return 0, e
	}
	call := c.calls.add()
	n.writes = append(n.writes, &write{call: call, muts: slices.Clone(muts), pre: slices.Clone(pre)})
	return call, api.OK
}

// Snapshot: a call: up to which revision is nothing open any more?
func (c *Cluster) Snapshot(at int) (int, api.Errno) {
	return c.ask(at, api.Msg{Kind: sayClosed})
}

// Fetch: a call: which users had a relation to an object at a revision?
func (c *Cluster) Fetch(at int, object, relation string, rev int64) (int, api.Errno) {
	x := api.Tuple{Object: object, Relation: relation}
	return c.ask(at, api.Msg{Kind: sayFetch, Rev: rev, Muts: []api.Mutation{{Tuple: x}}})
}

// Result: what has become of a call.
func (c *Cluster) Result(call int) (Outcome, api.Errno) {
	if call < 0 || call >= len(c.calls.outcomes) {
		return Outcome{}, api.ErrMissing
	}
	o := c.calls.outcomes[call]
	o.Users = slices.Clone(o.Users)
	return o, api.OK
}

// ask: a call that is a query.
func (c *Cluster) ask(at int, m api.Msg) (int, api.Errno) {
	n, e := c.at(at)
	if e == api.OK {
		_, e = code.Encode(m)
	}
	if e != api.OK {
		return 0, e
	}
	call := c.calls.add()
	m.Id = int64(call)
	n.queries = append(n.queries, &query{call: call, asks: m})
	return call, api.OK
}

// fault: what is wrong with a write.
func fault(muts []api.Mutation, pre []api.Condition) api.Errno {
	seen := map[api.Tuple]struct{}{}
	for _, x := range muts {
		seen[x.Tuple] = struct{}{}
	}
	if len(seen) < len(muts) {
		return api.ErrTwice
	}
	for _, x := range muts {
		if e := tuple.Check(x.Tuple); e != api.OK {
			return e
		}
	}
	for _, x := range pre {
		if e := tuple.Check(x.Tuple); e != api.OK {
			return e
		}
	}
	switch count := len(muts) + len(pre); {
	case count > MaxWrite:
		return api.ErrLong
	case count == 0:
		return api.ErrRange
	}
	return api.OK
}
