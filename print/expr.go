package print

import (
	"strings"

	"porter/schema"
)

// What an expression without operands does, as the schema tells it.
const (
	opThis = "this"
	opName = "name"
	opVia  = "via"
)

// writer writes an expression. One that no schema has may hold itself; since each part of a schema's has a byte of its text at least, that has no more parts than such a text may have bytes.
type writer struct {
	text  strings.Builder
	parts int // how many more may be written
}

// expr writes an expression.
func (w *writer) expr(e schema.Expr) {
	if w.parts == 0 {
		return
	}
	w.parts--
	switch {
	case e.Op == opThis:
		w.text.WriteString(opThis)
	case e.Op == opName:
		w.text.WriteString(e.Name)
	case e.Op == opVia:
		w.text.WriteString(e.Via + "->" + e.Name)
	case len(e.Args) == 2:
		strength := binding(e.Op)
		w.operand(e.Args[0], strength)
		w.text.WriteString(" " + e.Op + " ")
		// Operators bind from the left: on the right one that binds as strongly would be taken apart.
		w.operand(e.Args[1], strength+1)
	}
}

// operand writes an operand, in brackets if it doesn't bind so strongly.
func (w *writer) operand(e schema.Expr, strength int) {
	if binding(e.Op) >= strength {
		w.expr(e)
		return
	}
	w.text.WriteByte('(')
	w.expr(e)
	w.text.WriteByte(')')
}

// binding: how strongly an operator binds; what is none is never taken apart.
func binding(op string) int {
	switch op {
	case "|":
		return 1
	case "&", "-":
		return 2
	}
	return 3
}
