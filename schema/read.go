package schema

import (
	"slices"
	"strings"

	"porter/api"
)

// reader is a text's schema as far as it is read, and what is left of the tokens of the line that is being read. A line that isn't right gives up: it panics with a fault, which Parse catches.
type reader struct {
	schema *Schema
	lines  []int // in which line each entry stands
	line   int
	left   []string
}

// fault is what is wrong with which line.
type fault struct {
	code api.Errno
	line int
}

// fail gives up.
func (r *reader) fail(code api.Errno) { panic(fault{code, r.line}) }

// read: all lines of a text.
func (r *reader) read(text string) {
	for i, line := range strings.Split(text, "\n") {
		r.line = i
		r.left = r.tokens(line)
		r.statement()
	}
}

// tokens: a line's tokens.
func (r *reader) tokens(line string) []string {
	var list []string
	rest := strings.TrimLeft(line, " ")
	for rest != "" {
		size := tokenSize(rest)
		if size == 0 {
			r.fail(api.ErrLine)
		}
		list = append(list, rest[:size])
		rest = strings.TrimLeft(rest[size:], " ")
	}
	return list
}

// tokenSize: how many bytes the token has with which a text begins that isn't empty; 0: there is none.
func tokenSize(s string) int {
	size := nameSize(s)
	switch {
	case size > api.MaxName:
		return 0
	case size > 0:
		return size
	case strings.HasPrefix(s, "->"):
		return 2
	case strings.IndexByte(":,#=|&-()", s[0]) >= 0:
		return 1
	}
	return 0
}

// nameSize: how many bytes of names a text begins with.
func nameSize(s string) int {
	size := 0
	for size < len(s) && inName(s[size]) {
		size++
	}
	return size
}

// inName: may a byte stand in a name?
func inName(b byte) bool {
	return b >= 'a' && b <= 'z' || b >= '0' && b <= '9' || b == '_'
}

// statement: what a line says.
func (r *reader) statement() {
	switch {
	case len(r.left) == 0:
	case r.take("namespace"):
		r.namespace()
	case len(r.schema.spaces) > 0 && r.take("relation"):
		r.relation()
	default:
		r.fail(api.ErrLine)
	}
}

// namespace: what stands behind the word namespace.
func (r *reader) namespace() {
	x := r.schema
	name := r.name(api.ErrLine)
	r.end()
	if slices.Contains(x.spaces, name) {
		r.fail(api.ErrTwice)
	}
	x.spaces = append(x.spaces, name)
}

// relation: what stands behind the word relation.
func (r *reader) relation() {
	x := r.schema
	relation := Relation{Name: r.name(api.ErrLine), Expr: Expr{Op: opThis}}
	if r.take(":") {
		relation.Types = r.types()
	}
	if r.take("=") {
		relation.Expr = r.expr(0)
	}
	r.end()
	k := key{x.spaces[len(x.spaces)-1], relation.Name}
	if _, found := x.index[k]; found {
		r.fail(api.ErrTwice)
	}
	x.index[k] = len(x.entries)
	x.entries = append(x.entries, entry{relation, k})
	r.lines = append(r.lines, r.line)
}

// types: at least one type, with commas between.
func (r *reader) types() []string {
	list := []string{r.userType()}
	for r.take(",") {
		list = append(list, r.userType())
	}
	return list
}

// userType: a name, or two with # between.
func (r *reader) userType() string {
	space := r.name(api.ErrLine)
	if !r.take("#") {
		return space
	}
	return join(space, r.name(api.ErrLine))
}

// take: the next token is taken, if it is this one.
func (r *reader) take(token string) bool {
	if len(r.left) == 0 || r.left[0] != token {
		return false
	}
	r.left = r.left[1:]
	return true
}

// name: the next token, which must be a name.
func (r *reader) name(code api.Errno) string {
	if len(r.left) == 0 || !inName(r.left[0][0]) {
		r.fail(code)
	}
	name := r.left[0]
	r.left = r.left[1:]
	return name
}

// end: nothing may stand behind.
func (r *reader) end() {
	if len(r.left) > 0 {
		r.fail(api.ErrLine)
	}
}
