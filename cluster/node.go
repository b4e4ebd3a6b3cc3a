package cluster

import (
	"slices"

	"porter/api"
	"porter/coord"
	"porter/log"
	"porter/outbox"
	"porter/shard"
)

const (
	// period: so many ticks go by until a question is said again; where nothing goes wrong its answer is there by then.
	period = 2
	// patience: what isn't answered in so many ticks is given up. It is more than any answer takes where nothing goes wrong.
	patience = 40
)

// node is a node that is up: what it knows by its log, and what it has in hand.
type node struct {
	id      int
	wire    *wire
	calls   *calls
	share   *shard.Shard
	coord   *coord.Coord
	head    *head // of node 0 alone
	box     *outbox.Outbox[key, api.Msg]
	writes  []*write
	queries []*query
}

// newNode: a node as the records of its log tell.
func newNode(id int, c *Cluster, l *log.Log, records []api.Msg) (*node, api.Errno) {
	n := &node{id: id, wire: c.wire, calls: c.calls}
	var e api.Errno
	if n.share, e = shard.New(l, id, c.first); e != api.OK {
		return nil, e
	}
	n.share.Replay(records...)
	if n.coord, e = coord.Open(l, id, records...); e != api.OK {
		return nil, e
	}
	if n.box, e = outbox.New[key, api.Msg](period, outbox.MaxSize); e != api.OK {
		return nil, e
	}
	if id == 0 {
		n.head, e = newHead(l, c.first, len(c.nodes), records)
	}
	return n, e
}

// tick: what takes too long is given up, and what is due is said.
func (n *node) tick() {
	n.tickWrites()
	n.tickQueries()
	if n.head != nil {
		n.head.tick()
	}
	n.refresh()
	for _, m := range n.box.Tick() {
		n.say(m)
	}
}

// say: a message goes on its way.
func (n *node) say(m api.Msg) {
	m.From = n.id
	n.wire.send(m)
}

// refresh: in the outbox are the questions that are open now, and nothing else. So none is forgotten, whether the node has begun anew or its outbox was full.
func (n *node) refresh() {
	questions := n.open()
	wanted := map[key]struct{}{}
	for _, m := range questions {
		wanted[keyOf(m)] = struct{}{}
	}
	for _, k := range n.box.Keys() {
		if _, found := wanted[k]; !found {
			n.box.Ack(k)
		}
		// What is there already must not be put once more: it would be due at once.
		delete(wanted, k)
	}
	for _, m := range questions {
		if _, found := wanted[keyOf(m)]; found {
			n.box.Put(keyOf(m), m)
		}
	}
}

// open: the questions to which the node wants an answer.
func (n *node) open() []api.Msg {
	var list []api.Msg
	for _, m := range n.coord.Owed() {
		for _, to := range m.Nodes {
			list = append(list, api.Msg{Kind: sayDecide, To: to, Id: m.Id, Rev: m.Rev})
		}
	}
	for _, m := range n.share.Pending() {
		list = append(list, api.Msg{Kind: sayAsk, To: m.From, Id: m.Id})
	}
	if n.head != nil {
		list = append(list, n.head.open()...)
	}
	for _, w := range n.writes {
		list = append(list, n.openOfWrite(w)...)
	}
	for _, q := range n.queries {
		list = append(list, n.openOfQuery(q))
	}
	return list
}

// hear: a message has come in. It is answered once; if the answer is lost, it will come again.
func (n *node) hear(m api.Msg) {
	reply := func(answer api.Msg) {
		answer.Id, answer.To = m.Id, m.From
		n.say(answer)
	}
	n.hearShare(m, reply)
	n.hearCoord(m, reply)
	n.hearAnswer(m)
	if n.head != nil {
		n.head.hear(m, reply)
	}
}

// hearShare: what the node's share is asked and told.
func (n *node) hearShare(m api.Msg, reply func(api.Msg)) {
	switch m.Kind {
	case sayPrepare:
		reply(verdict(sayVote, n.share.Prepare(m)))
	case sayDecide:
		if n.share.Decide(m.Id, true, m.Rev) == api.OK {
			reply(api.Msg{Kind: sayApplied})
		}
	case sayFetch:
		n.fetch(m, reply)
	case sayTable:
		if n.share.Learn(m.Id, tableOf(m)) == api.OK {
			reply(api.Msg{Kind: sayKnown})
		}
	case sayFence:
		n.fence(m, reply)
	case sayInstall:
		reply(verdict(sayInstalled, n.share.Install(m.Slot, m.Id, m.Rows...)))
	}
}

// hearCoord: what the node's coordinator is asked and told.
func (n *node) hearCoord(m api.Msg, reply func(api.Msg)) {
	switch m.Kind {
	case sayVote:
		n.vote(m)
	case sayIssued:
		n.issued(m)
	case sayApplied:
		n.coord.Ack(m.Id, m.From)
	case sayAsk:
		// Of what is Active nothing can be told yet.
		if state, rev := n.coord.Status(m.Id); state != coord.Active {
			reply(api.Msg{Kind: sayFate, Slot: state, Rev: rev})
		}
	}
}

// hearAnswer: what a node is told that has asked for itself.
func (n *node) hearAnswer(m api.Msg) {
	switch m.Kind {
	case sayFate:
		// What isn't known to its coordinator never was and never will be committed.
		n.share.Decide(m.Id, m.Slot != coord.Unknown, m.Rev)
	case sayRevision, sayUsers:
		n.answer(m)
	}
}

// fence: a slot is fenced; its rows are told once nothing is promised in it, and the share knows all moves before.
func (n *node) fence(m api.Msg, reply func(api.Msg)) {
	rows, e := n.share.Fence(m.Slot, m.Id)
	switch told := (api.Msg{Kind: sayFenced, Id: m.Id, Rows: rows}); {
	case e == api.ErrBusy || e == api.ErrEpoch:
	case e == api.OK && !fits(told):
		reply(verdict(sayFenced, api.ErrLong))
	case e == api.OK:
		reply(told)
	default:
		reply(verdict(sayFenced, e))
	}
}

// end: a call of the node has come to something.
func (n *node) end(call int, o Outcome) {
	n.calls.outcomes[call] = o
	n.writes = slices.DeleteFunc(n.writes, func(w *write) bool { return w.call == call })
	n.queries = slices.DeleteFunc(n.queries, func(q *query) bool { return q.call == call })
}

// fail: a call of the node will never be done.
func (n *node) fail(call int, e api.Errno) { n.end(call, Outcome{State: Failed, Code: e}) }

// lose: the calls that the node has in hand are lost with it.
func (n *node) lose() {
	for _, w := range n.writes {
		n.calls.outcomes[w.call] = Outcome{State: Lost}
	}
	for _, q := range n.queries {
		n.calls.outcomes[q.call] = Outcome{State: Lost}
	}
}
