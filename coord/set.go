package coord

import "porter/api"

// set is a set of nodes, a bit each.
type set uint8

// noNode: is this none of the nodes that there may be?
func noNode(node int) bool { return node < 0 || node >= api.MaxNodes }

// setOf: the set of some nodes; what is no node isn't in it.
func setOf(nodes ...int) set {
	var s set
	for _, n := range nodes {
		if !noNode(n) {
			s |= 1 << n
		}
	}
	return s
}

// has: is a node in it?
func (s set) has(node int) bool { return s&setOf(node) != 0 }

// without: the same set, but without a node.
func (s set) without(node int) set { return s &^ setOf(node) }

// empty: is no node in it?
func (s set) empty() bool { return s == 0 }

// list: its nodes, rising.
func (s set) list() []int {
	var nodes []int
	for n := range api.MaxNodes {
		if s.has(n) {
			nodes = append(nodes, n)
		}
	}
	return nodes
}
