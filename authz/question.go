package authz

import (
	"porter/api"
	"porter/check"
	"porter/cluster"
)

const (
	// none is the number of no call.
	none = -1
	// hands: so many places are asked for at once for a question at most: more of them might crowd out all else on the network.
	hands = 512
)

// question waits at a node until it was told what it needs: first a closed revision, and then, of the places on which its answer hangs, as far as they are seen, all those of which it doesn't know.
type question struct {
	node  *node
	token int64
	judge func(src check.Source) (Answer, api.Errno)
	call  int   // the Snapshot
	again int   // how often it was asked for once more
	dated bool  // is the revision known?
	rev   int64 // at which it is answered
	facts map[place]*fact
	open  []*fact // those that weren't told; of these the first ones were asked for
}

// ask: the number of a new question.
func (s *Service) ask(at int, token int64, judge func(src check.Source) (Answer, api.Errno)) (int, api.Errno) {
	call, e := s.Snapshot(at)
	if e != api.OK {
		return 0, e
	}
	q := &question{node: s.nodes[at], token: token, judge: judge, call: call, facts: map[place]*fact{}}
	return s.add(&request{call: none, question: q}), api.OK
}

// pursue: a question goes on; once it is answered nothing is kept of it but the answer.
func (s *Service) pursue(r *request) {
	a, e := s.step(r.question)
	if e != api.OK {
		a = Answer{Done: true, Code: e}
	}
	if a.Done {
		r.answer, r.question = a, nil
	}
}

// step: what was told is taken, and what must be known next is put into the node's hands; or all is known.
func (s *Service) step(q *question) (Answer, api.Errno) {
	if id := q.node.id; s.nodes[id] != q.node || !s.Up(id) {
		return Answer{}, api.ErrDown
	}
	if e := s.date(q); e != api.OK || !q.dated {
		return Answer{}, e
	}
	if e := s.fetch(q); e != api.OK || len(q.open) > 0 {
		return Answer{}, e
	}
	a, e := q.judge(q)
	switch {
	// A budget that doesn't do for the places that are seen won't do for more of them either.
	case e != api.OK:
		return Answer{}, e
	case len(q.open) > 0:
		return Answer{}, s.fetch(q)
	}
	a.Done, a.Rev = true, q.rev
	return a, api.OK
}

// date: the question's revision, once the node is told one that is closed and high enough.
func (s *Service) date(q *question) api.Errno {
	if q.dated {
		return api.OK
	}
	o, _ := s.Result(q.call)
	switch {
	case o.State == cluster.Pending:
		return api.OK
	case o.State == cluster.Lost:
		return api.ErrDown
	case o.State == cluster.Done && o.Rev >= q.token:
		q.dated, q.rev = true, o.Rev
		return api.OK
	case q.again == MaxTries:
		return api.ErrUnavailable
	}
	q.again++
	var e api.Errno
	q.call, e = s.Snapshot(q.node.id)
	return e
}

// fetch: of the open places those that were told aren't open any more; of the others the first ones are asked for.
func (s *Service) fetch(q *question) api.Errno {
	var open []*fact
	for i, f := range q.open {
		if len(open) == hands {
			open = append(open, q.open[i:]...)
			break
		}
		told, e := s.learn(q, f)
		if e != api.OK {
			return e
		}
		if !told {
			open = append(open, f)
		}
	}
	q.open = open
	return api.OK
}

// learn: was a place told? If it never was asked for, or in vain, it is asked for.
func (s *Service) learn(q *question, f *fact) (bool, api.Errno) {
	if f.call != none {
		o, _ := s.Result(f.call)
		switch {
		case o.State == cluster.Pending:
			return false, api.OK
		case o.State == cluster.Lost:
			return false, api.ErrDown
		case o.State == cluster.Done:
			f.users = o.Users
			q.node.kept.Put(key{f.place, q.rev}, f.users)
			return true, api.OK
		case f.again == MaxTries:
			return false, o.Code
		}
		f.again++
	}
	var e api.Errno
	f.call, e = s.Fetch(q.node.id, f.object, f.relation, q.rev)
	return false, e
}
