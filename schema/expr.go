package schema

import "porter/api"

// What an Expr without Args does.
const (
	opThis = "this"
	opName = "name"
	opVia  = "via"
)

// expr: terms with | between, within so many brackets.
func (r *reader) expr(depth int) Expr {
	e := r.term(depth)
	for r.take("|") {
		e = binary("|", e, r.term(depth))
	}
	return e
}

// term: factors with & or - between, within so many brackets.
func (r *reader) term(depth int) Expr {
	e := r.factor(depth)
	for {
		switch {
		case r.take("&"):
			e = binary("&", e, r.factor(depth))
		case r.take("-"):
			e = binary("-", e, r.factor(depth))
		default:
			return e
		}
	}
}

// factor: what no operator takes apart, within so many brackets.
func (r *reader) factor(depth int) Expr {
	if r.take("(") {
		return r.bracket(depth + 1)
	}
	if r.take(opThis) {
		return Expr{Op: opThis}
	}
	first := r.relationName()
	if r.take("->") {
		return Expr{Op: opVia, Via: first, Name: r.relationName()}
	}
	return Expr{Op: opName, Name: first}
}

// bracket: what stands behind a bracket that is so deep.
func (r *reader) bracket(depth int) Expr {
	if depth > MaxDepth {
		r.fail(api.ErrExpr)
	}
	e := r.expr(depth)
	if !r.take(")") {
		r.fail(api.ErrExpr)
	}
	return e
}

// relationName: a name within an expression, where this is none.
func (r *reader) relationName() string {
	name := r.name(api.ErrExpr)
	if name == opThis {
		r.fail(api.ErrExpr)
	}
	return name
}

// binary: an operator with its two operands.
func binary(op string, left, right Expr) Expr {
	return Expr{Op: op, Args: []Expr{left, right}}
}
