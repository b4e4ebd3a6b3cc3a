package check

import (
	"slices"

	"porter/schema"
)

// What an expression without operands does, as the schema tells it; what is neither is the word this.
const (
	opName = "name"
	opVia  = "via"
)

// plan is how a relation follows, for all questions that have it: its expression, and the leaves of that, numbered from the left. Leaves that are alike have one number, since they come to the same.
type plan struct {
	whole  *part
	leaves []schema.Expr
}

// part is an expression: an operator with two operands, or a leaf's number.
type part struct {
	op          string
	left, right *part
	leaf        int
}

// newPlan: the plan of an expression.
func newPlan(x schema.Expr) *plan {
	n := &plan{}
	n.whole = n.part(x)
	return n
}

// part: an expression, its leaves numbered.
func (n *plan) part(x schema.Expr) *part {
	if len(x.Args) == 0 {
		return &part{leaf: n.number(x)}
	}
	// The left operand's leaves have the lower numbers: they are asked first.
	left := n.part(x.Args[0])
	return &part{op: x.Op, left: left, right: n.part(x.Args[1])}
}

// number: the number of a leaf.
func (n *plan) number(x schema.Expr) int {
	at := slices.IndexFunc(n.leaves, func(other schema.Expr) bool {
		return other.Op == x.Op && other.Via == x.Via && other.Name == x.Name
	})
	if at >= 0 {
		return at
	}
	n.leaves = append(n.leaves, x)
	return len(n.leaves) - 1
}

// holds: does an object follow from the leaves that have it? The right operand is asked first: operators bind from the left, so that of long rows it is the small one.
func (p *part) holds(has func(leaf int) bool) bool {
	switch p.op {
	case "|":
		return p.right.holds(has) || p.left.holds(has)
	case "&":
		return p.right.holds(has) && p.left.holds(has)
	case "-":
		return !p.right.holds(has) && p.left.holds(has)
	}
	return has(p.leaf)
}
