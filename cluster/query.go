package cluster

import (
	"slices"

	"porter/api"
)

// page: so many users are told in one message, as it has room for them however long their names are.
const page = 128

// query is a call that its node has in hand: a Snapshot or a Fetch.
type query struct {
	call  int
	asks  api.Msg  // but for whom it is for
	users []string // those that were told so far
	spent int      // so many ticks without an answer
}

// tickQueries: what takes too long is given up.
func (n *node) tickQueries() {
	for _, q := range slices.Clone(n.queries) {
		if q.spent == patience {
			n.fail(q.call, api.ErrUnavailable)
		}
		q.spent++
	}
}

// openOfQuery: what a query wants answered: of users those behind the ones that were told, by the owner in the table that the node knows now.
func (n *node) openOfQuery(q *query) api.Msg {
	m := q.asks
	if m.Kind == sayFetch {
		table, _ := n.share.Table()
		m.To, m.Epoch = table.Owner(m.Muts[0].Tuple.Object), int64(len(q.users))
	}
	return m
}

// fetch: some users are told. If the share doesn't serve the slot, another one does or will.
func (n *node) fetch(m api.Msg, reply func(api.Msg)) {
	x := m.Muts[0].Tuple
	users, e := n.share.Fetch(x.Object, x.Relation, m.Rev)
	if e == api.ErrFenced {
		return
	}
	told := verdict(sayUsers, e)
	told.Epoch = m.Epoch
	rest := users[min(int(m.Epoch), len(users)):]
	for _, u := range rest[:min(page, len(rest))] {
		told.Muts = append(told.Muts, api.Mutation{Tuple: api.Tuple{User: u}})
	}
	told.Flag = len(rest) > page
	reply(told)
}

// answer: what a query wanted is told, or a part of it.
func (n *node) answer(m api.Msg) {
	at := slices.IndexFunc(n.queries, func(q *query) bool { return int64(q.call) == m.Id })
	if at < 0 {
		return
	}
	q := n.queries[at]
	switch e := verdictOf(m); {
	case m.Epoch != int64(len(q.users)): // these users were told already
	case e != api.OK:
		n.fail(q.call, e)
	default:
		n.told(q, m)
	}
}

// told: a part of what a query wanted, and whether it was the last.
func (n *node) told(q *query, m api.Msg) {
	for _, x := range m.Muts {
		q.users = append(q.users, x.Tuple.User)
	}
	q.spent = 0
	if !m.Flag {
		n.end(q.call, Outcome{State: Done, Rev: m.Rev, Users: q.users})
	}
}
