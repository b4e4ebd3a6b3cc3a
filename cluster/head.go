package cluster

import (
	"porter/api"
	"porter/coord"
	"porter/log"
	"porter/move"
	"porter/oracle"
	"porter/ring"
)

// head is what node 0 has besides: the oracle, and the controller of moves.
type head struct {
	oracle *oracle.Oracle
	mover  *move.Mover
	known  []int64 // up to which version each node is known to have learnt
	spent  int     // so many ticks of the move under way
}

func newHead(l *log.Log, first ring.Table, nodes int, records []api.Msg) (*head, api.Errno) {
	m, e := move.Open(l, first, records...)
	if e != api.OK {
		return nil, e
	}
	return &head{oracle: oracle.Open(l, records...), mover: m, known: make([]int64, nodes)}, api.OK
}

// start: a move begins.
func (h *head) start(slot, to int) api.Errno {
	_, e := h.mover.Start(slot, to)
	if e == api.OK {
		h.spent = 0
	}
	return e
}

// tick: a move that takes too long is undone, as its slot is served by nobody meanwhile.
func (h *head) tick() {
	if _, stage := h.mover.Moving(); stage == move.Idle {
		return
	}
	if h.spent++; h.spent > patience {
		h.mover.Undo()
	}
}

// open: the questions to which an answer is wanted.
func (h *head) open() []api.Msg {
	var list []api.Msg
	for _, m := range h.oracle.Pending() {
		list = append(list, api.Msg{Kind: sayAsk, To: m.From, Id: m.Id})
	}
	table, version := h.mover.Table()
	for to, known := range h.known {
		if known < version {
			list = append(list, api.Msg{Kind: sayTable, To: to, Id: version, Epoch: table.Epoch, Nodes: table.Owners[:]})
		}
	}
	switch m, stage := h.mover.Moving(); stage {
	case move.Fencing:
		list = append(list, api.Msg{Kind: sayFence, To: m.From, Id: m.Id, Slot: m.Slot})
	case move.Installing:
		list = append(list, api.Msg{Kind: sayInstall, To: m.To, Id: m.Id, Slot: m.Slot, Rows: m.Rows})
	}
	return list
}

// hear: what the oracle and the controller are asked and told.
func (h *head) hear(m api.Msg, reply func(api.Msg)) {
	switch m.Kind {
	case sayIssue:
		rev, e := h.oracle.Issue(m.Id, m.From)
		answer := verdict(sayIssued, e)
		answer.Rev = rev
		reply(answer)
	case sayClosed:
		reply(api.Msg{Kind: sayRevision, Rev: h.oracle.Closed()})
	case sayFate:
		// Open is only what may still have to be applied somewhere.
		if m.Slot != coord.Committed {
			h.oracle.Resolve(m.Id)
		}
	case sayKnown:
		h.known[m.From] = max(h.known[m.From], m.Id)
	case sayFenced:
		h.step(m, move.Fencing)
	case sayInstalled:
		h.step(m, move.Installing)
	}
}

// step: the move under way goes on, or it can't be.
func (h *head) step(m api.Msg, from int) {
	moving, stage := h.mover.Moving()
	switch {
	case stage != from || moving.Id != m.Id: // this was told already
	case verdictOf(m) != api.OK:
		h.mover.Undo()
	case stage == move.Fencing:
		h.mover.Fenced(m.Id, m.Rows...)
	default:
		h.mover.Installed(m.Id)
	}
}

// settled: is no revision pending, and no move under way?
func (h *head) settled() bool {
	_, stage := h.mover.Moving()
	return len(h.oracle.Pending()) == 0 && stage == move.Idle
}

// tableOf: the table that a message tells.
func tableOf(m api.Msg) ring.Table {
	t := ring.Table{Epoch: m.Epoch}
	copy(t.Owners[:], m.Nodes)
	return t
}
