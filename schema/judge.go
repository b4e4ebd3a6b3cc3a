package schema

import (
	"slices"
	"strings"

	"porter/api"
)

// judge: do the lines fit together? Each is right by itself; what is told of is a relation, by its line.
func (r *reader) judge() {
	x := r.schema
	for at, each := range x.entries {
		r.line = r.lines[at]
		if !x.hasTypes(each) {
			r.fail(api.ErrType)
		}
		if !x.leads(each) {
			r.fail(api.ErrRelation)
		}
	}
	asks := make([]places, len(x.entries))
	takes := make([]places, len(x.entries))
	for at, each := range x.entries {
		asks[at], takes[at] = x.asked(each)
	}
	for at := range x.entries {
		r.line = r.lines[at]
		if reaches(asks, takes[at], at) {
			r.fail(api.ErrCycle)
		}
	}
}

// hasTypes: is there what each type of an entry names?
func (x *Schema) hasTypes(r entry) bool {
	for _, t := range r.Types {
		space, relation, paired := strings.Cut(t, "#")
		if !slices.Contains(x.spaces, space) {
			return false
		}
		if _, found := x.index[key{space, relation}]; paired && !found {
			return false
		}
	}
	return true
}

// leads: does each name and each via of an entry lead to some relation?
func (x *Schema) leads(r entry) bool {
	all := true
	leaves(r.Expr, false, func(leaf Expr, _ bool) {
		found := leaf.Op == opThis
		x.edges(r, leaf, func(int) { found = true })
		all = all && found
	})
	return all
}

// places are where some relations stand among the entries.
type places map[int]struct{}

// asked: the relations for which an entry asks, and those of them that it takes away.
func (x *Schema) asked(r entry) (asks, takes places) {
	asks, takes = places{}, places{}
	leaves(r.Expr, false, func(leaf Expr, taken bool) {
		x.edges(r, leaf, func(to int) {
			asks[to] = struct{}{}
			if taken {
				takes[to] = struct{}{}
			}
		})
	})
	return asks, takes
}

// leaves hands over, from the left, the parts of an expression that have no operands, and whether each is taken away.
func leaves(e Expr, taken bool, hand func(leaf Expr, taken bool)) {
	if len(e.Args) == 0 {
		hand(e, taken)
		return
	}
	leaves(e.Args[0], taken, hand)
	leaves(e.Args[1], taken || e.Op == "-", hand)
}

// edges hands over the places of the relations for which a leaf of an entry's expression asks.
func (x *Schema) edges(r entry, leaf Expr, hand func(to int)) {
	look := func(space, relation string) {
		if to, found := x.index[key{space, relation}]; found {
			hand(to)
		}
	}
	switch leaf.Op {
	case opThis:
		for _, t := range r.Types {
			if space, relation, paired := strings.Cut(t, "#"); paired {
				look(space, relation)
			}
		}
	case opName:
		look(r.space, leaf.Name)
	case opVia:
		via, found := x.index[key{r.space, leaf.Via}]
		if !found {
			return
		}
		for _, t := range x.entries[via].Types {
			// A type with # is no namespace: nothing is found by it.
			look(t, leaf.Name)
		}
	}
}

// reaches: does some relation of these ask for the goal, by others too, or is it the goal?
func reaches(asks []places, from places, goal int) bool {
	seen := places{}
	var visit func(to places)
	visit = func(to places) {
		for at := range to {
			if _, been := seen[at]; !been {
				seen[at] = struct{}{}
				visit(asks[at])
			}
		}
	}
	visit(from)
	_, found := seen[goal]
	return found
}
