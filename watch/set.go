package watch

import (
	"maps"
	"slices"

	"porter/api"
	"porter/tuple"
)

// set is tuples, each once.
type set map[api.Tuple]struct{}

// setOf: some tuples, each once.
func setOf(tuples []api.Tuple) set {
	s := set{}
	for _, t := range tuples {
		s.put(t)
	}
	return s
}

// put: a tuple is in it.
func (s set) put(t api.Tuple) { s[t] = struct{}{} }

// has: is a tuple in it?
func (s set) has(t api.Tuple) bool {
	_, found := s[t]
	return found
}

// sorted: its tuples in order.
func (s set) sorted() []api.Tuple { return slices.SortedFunc(maps.Keys(s), tuple.Compare) }
