package check

import (
	"porter/api"
	"porter/schema"
	"porter/tuple"
)

// question is an object with a relation to it. Of users, one without a relation is the object itself.
type question struct {
	object, relation string
}

// problem is a question with what its answer hangs on.
type problem struct {
	question
	plan   *plan
	leaves []set[string] // by number, what objects are known to be in each leaf
	asks   []*problem    // whose answers the leaves take in
	takers []taker       // the leaves that take in its own answer
	answer set[string]
	// How the solver has met it: the numbers are 0 until it does.
	order, low, circle int
}

// taker is a leaf of a problem that takes in an answer.
type taker struct {
	problem *problem
	leaf    set[string]
}

// kind is what questions of one plan have in common: a namespace with a relation.
type kind struct {
	space, relation string
}

// search is the problems of one call, in the order in which they are met.
type search struct {
	schema   *schema.Schema
	source   Source
	budget   int
	problems []*problem
	known    map[question]*problem
	plans    map[kind]*plan
}

// newSearch: a search that has met nothing.
func newSearch(x *schema.Schema, src Source, budget int) *search {
	return &search{schema: x, source: src, budget: budget, known: map[question]*problem{}, plans: map[kind]*plan{}}
}

// problem: the problem of what is asked for, listed if it wasn't; none: it is no question.
func (s *search) problem(q question) (*problem, api.Errno) {
	if p, found := s.known[q]; found {
		return p, api.OK
	}
	n := s.plan(q)
	if n == nil {
		return nil, api.OK
	}
	if len(s.problems) == s.budget {
		return nil, api.ErrBudget
	}
	p := &problem{question: q, plan: n, answer: set[string]{}}
	s.problems = append(s.problems, p)
	s.known[q] = p
	return p, api.OK
}

// plan: how the relation follows for which is asked; none: the schema has no such relation.
func (s *search) plan(q question) *plan {
	space, _, _ := tuple.Object(q.object)
	key := kind{space, q.relation}
	if n, found := s.plans[key]; found {
		return n
	}
	r, e := s.schema.Find(space, q.relation)
	if e != api.OK {
		return nil
	}
	n := newPlan(r.Expr)
	s.plans[key] = n
	return n
}

// list: all problems are met on which the first one hangs.
func (s *search) list() api.Errno {
	for i := 0; i < len(s.problems); i++ {
		p := s.problems[i]
		for _, x := range p.plan.leaves {
			if e := s.leaf(p, x); e != api.OK {
				return e
			}
		}
	}
	return api.OK
}

// leaf: a problem has a leaf more, with the objects that are in it by tuples alone; all that it asks for is listed.
func (s *search) leaf(p *problem, x schema.Expr) api.Errno {
	objects := set[string]{}
	p.leaves = append(p.leaves, objects)
	return s.leads(p.question, x, func(to question) api.Errno {
		if to.relation == "" {
			objects.add(to.object)
			return api.OK
		}
		asked, e := s.problem(to)
		if asked != nil {
			p.asks = append(p.asks, asked)
			asked.takers = append(asked.takers, taker{p, objects})
		}
		return e
	})
}

// leads hands over what a leaf leads to from a question, until there is an error.
func (s *search) leads(q question, x schema.Expr, hand func(to question) api.Errno) api.Errno {
	switch x.Op {
	case opName:
		return hand(question{q.object, x.Name})
	case opVia:
		return s.users(question{q.object, x.Via}, func(user question) api.Errno {
			if user.relation != "" {
				return api.OK
			}
			return hand(question{user.object, x.Name})
		})
	}
	return s.users(q, hand)
}

// users hands over whom the source tells, until there is an error.
func (s *search) users(q question, hand func(user question) api.Errno) api.Errno {
	list, e := s.source.Users(q.object, q.relation)
	if e != api.OK {
		return e
	}
	for _, user := range list {
		object, relation, wrong := tuple.User(user)
		if wrong != api.OK {
			continue
		}
		if e := hand(question{object, relation}); e != api.OK {
			return e
		}
	}
	return api.OK
}
