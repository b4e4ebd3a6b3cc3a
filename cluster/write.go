package cluster

import (
	"slices"

	"porter/api"
	"porter/ring"
)

const (
	// maxTries: so many transactions are begun for a write at most; each costs room in the logs.
	maxTries = 5
	// pause: so many ticks go by ahead of another one, in which locks of transactions that are no more are given back.
	pause = 4
)

// write is a call that its node has in hand: in a transaction, or between two of them.
type write struct {
	call        int
	muts        []api.Mutation
	pre         []api.Condition
	id          int64     // the transaction under way, or 0
	unvoted     []api.Msg // what is to be promised and isn't yet
	tries       int
	wait, spent int // so many ticks to the next transaction, and of this one
}

// tickWrites: transactions are begun, and those that take too long given up.
func (n *node) tickWrites() {
	for _, w := range slices.Clone(n.writes) {
		switch {
		case w.id == 0 && w.wait > 0:
			w.wait--
		case w.id == 0:
			n.begin(w)
		case w.spent == patience:
			n.coord.Abort(w.id)
			n.fail(w.call, api.ErrUnavailable)
		default:
			w.spent++
		}
	}
}

// begin: a new transaction for a write, by the table that the node knows now.
func (n *node) begin(w *write) {
	table, _ := n.share.Table()
	w.unvoted = split(table, w.muts, w.pre)
	var nodes []int
	for _, m := range w.unvoted {
		nodes = append(nodes, m.To)
	}
	id, e := n.coord.Begin(nodes...)
	if e != api.OK {
		n.fail(w.call, e)
		return
	}
	for i := range w.unvoted {
		w.unvoted[i].Id = id
	}
	w.id, w.spent, w.tries = id, 0, w.tries+1
}

// openOfWrite: what a write wants answered: all promises, and then a revision, which must not be given out before all is locked: so the revisions of a tuple rise as its locks are had.
func (n *node) openOfWrite(w *write) []api.Msg {
	switch {
	case w.id == 0:
		return nil
	case n.coord.Ready(w.id):
		return []api.Msg{{Kind: sayIssue, Id: w.id}}
	}
	return w.unvoted
}

// vote: a node has promised its part of a write, or it won't.
func (n *node) vote(m api.Msg) {
	e := verdictOf(m)
	w := n.writeOf(m.Id)
	if w == nil || n.coord.Vote(m.Id, m.From, e == api.OK) != api.OK {
		return
	}
	if e != api.OK {
		n.refused(w, e)
		return
	}
	w.unvoted = slices.DeleteFunc(w.unvoted, func(p api.Msg) bool { return p.To == m.From })
}

// refused: a write's transaction is no more; there may be another one.
func (n *node) refused(w *write, e api.Errno) {
	if !passing(e) || w.tries == maxTries {
		n.fail(w.call, e)
		return
	}
	w.id, w.unvoted, w.wait = 0, nil, pause
}

// issued: a write has a revision: it is committed, or will never be.
func (n *node) issued(m api.Msg) {
	w := n.writeOf(m.Id)
	if w == nil {
		return
	}
	e := verdictOf(m)
	if e == api.OK {
		e = n.coord.Commit(m.Id, m.Rev)
	}
	if e != api.OK {
		n.coord.Abort(m.Id)
		n.fail(w.call, e)
		return
	}
	n.calls.commits[m.Id] = w.call
	n.end(w.call, Outcome{State: Done, Rev: m.Rev})
}

// writeOf: the write of a transaction that is under way.
func (n *node) writeOf(id int64) *write {
	for _, w := range n.writes {
		if w.id == id {
			return w
		}
	}
	return nil
}

// passing: may another transaction find what one didn't?
func passing(e api.Errno) bool {
	return e == api.ErrLocked || e == api.ErrEpoch || e == api.ErrFenced
}

// split: what each owner is to promise of a write, by rising nodes.
func split(t ring.Table, muts []api.Mutation, pre []api.Condition) []api.Msg {
	var parts [api.MaxNodes]api.Msg
	for _, x := range muts {
		p := &parts[t.Owner(x.Tuple.Object)]
		p.Muts = append(p.Muts, x)
	}
	for _, x := range pre {
		p := &parts[t.Owner(x.Tuple.Object)]
		p.Pre = append(p.Pre, x)
	}
	var list []api.Msg
	for to, p := range parts {
		if len(p.Muts)+len(p.Pre) > 0 {
			p.Kind, p.To, p.Epoch = sayPrepare, to, t.Epoch
			list = append(list, p)
		}
	}
	return list
}
