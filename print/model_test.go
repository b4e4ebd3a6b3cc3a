package print

import (
	"math/rand"
	"slices"
	"strings"
	"testing"

	"porter/api"
	"porter/schema"
)

// parse: the schema of a text, which must be right.
func parse(t *testing.T, text string) *schema.Schema {
	t.Helper()
	x, e, line := schema.Parse(text)
	if e != api.OK {
		t.Fatalf("%q: %v in line %d", text, e, line)
	}
	return x
}

// head: a namespace with the relations that the expressions of the tests name.
const head = "namespace n\nrelation a: n\nrelation b: n\nrelation c: n\n"

// exprOf: the expression of a text, as a schema has it.
func exprOf(t *testing.T, text string) schema.Expr {
	t.Helper()
	r, e := parse(t, head+"relation x: n = "+text).Find("n", "x")
	if e != api.OK {
		t.Fatal(e)
	}
	return r.Expr
}

// same: are two expressions alike?
func same(a, b schema.Expr) bool {
	return a.Op == b.Op && a.Name == b.Name && a.Via == b.Via && slices.EqualFunc(a.Args, b.Args, same)
}

// whole: an expression with all operands in brackets, which leaves nothing to how operators bind.
func whole(e schema.Expr) string {
	if len(e.Args) == 2 {
		return "(" + whole(e.Args[0]) + ")" + e.Op + "(" + whole(e.Args[1]) + ")"
	}
	switch e.Op {
	case "name":
		return e.Name
	case "via":
		return e.Via + "->" + e.Name
	}
	return e.Op
}

// slow is Expr as P24.1 tells it, case by case.
func slow(e schema.Expr) string {
	if len(e.Args) != 2 {
		return whole(e)
	}
	wrapped := func(arg schema.Expr, right bool) string {
		inner := slow(arg)
		switch e.Op + arg.Op {
		case "&|", "-|":
			return "(" + inner + ")"
		case "||", "&&", "&-", "-&", "--":
			if right {
				return "(" + inner + ")"
			}
		}
		return inner
	}
	return wrapped(e.Args[0], false) + " " + e.Op + " " + wrapped(e.Args[1], true)
}

// exprs: all expressions of so many leaves, of which the first, the second and so on are these.
func exprs(leaves []schema.Expr) []schema.Expr {
	if len(leaves) == 1 {
		return leaves
	}
	var list []schema.Expr
	for cut := 1; cut < len(leaves); cut++ {
		for _, left := range exprs(leaves[:cut]) {
			for _, right := range exprs(leaves[cut:]) {
				for _, op := range []string{"|", "&", "-"} {
					list = append(list, schema.Expr{Op: op, Args: []schema.Expr{left, right}})
				}
			}
		}
	}
	return list
}

// randomExpr: the text of an expression, with more brackets and blanks than it needs.
func randomExpr(random *rand.Rand, names []string, depth int) string {
	name := func() string { return names[random.Intn(len(names))] }
	blank := func() string { return strings.Repeat(" ", random.Intn(3)) }
	if depth > 0 && random.Intn(4) > 0 {
		// No - among them: what takes away may make a circle.
		s := randomExpr(random, names, depth-1) + blank() + []string{"|", "&"}[random.Intn(2)] + blank() + randomExpr(random, names, depth-1)
		if random.Intn(2) == 0 {
			s = "(" + blank() + s + blank() + ")"
		}
		return s
	}
	switch random.Intn(4) {
	case 0:
		return "this"
	case 1:
		return "up" + blank() + "->" + blank() + name()
	}
	return name()
}

// randomSchema: the text of one that is right.
func randomSchema(random *rand.Rand) string {
	spaces, names := []string{"d", "e", "f"}, []string{"r", "s", "t", "u"}
	// A relation stands in all namespaces or in none, so that types may name it.
	names = names[:1+random.Intn(len(names))]
	random.Shuffle(len(spaces), func(i, j int) { spaces[i], spaces[j] = spaces[j], spaces[i] })
	var lines []string
	for _, space := range spaces {
		lines = append(lines, "namespace "+space, "relation up : "+spaces[random.Intn(3)])
		for _, i := range random.Perm(len(names)) {
			line := "relation  " + names[i]
			var types []string
			for range random.Intn(3) {
				types = append(types, []string{spaces[random.Intn(3)], spaces[random.Intn(3)] + " #" + names[random.Intn(len(names))]}[random.Intn(2)])
			}
			if len(types) > 0 {
				line += ":" + strings.Join(types, " ,")
			}
			if random.Intn(3) > 0 {
				line += "=" + randomExpr(random, names, random.Intn(4))
			}
			lines = append(lines, line)
			if random.Intn(4) == 0 {
				lines = append(lines, "  ")
			}
		}
	}
	return strings.Join(lines, "\n")
}

// alike: have two schemas the same namespaces and relations, in the same order?
func alike(a, b *schema.Schema) bool {
	if !slices.Equal(a.Spaces(), b.Spaces()) {
		return false
	}
	for _, space := range a.Spaces() {
		if !slices.EqualFunc(a.Relations(space), b.Relations(space), func(r, s schema.Relation) bool {
			return r.Name == s.Name && slices.Equal(r.Types, s.Types) && same(r.Expr, s.Expr)
		}) {
			return false
		}
	}
	return true
}

// slowDiff is Diff as P24.3 tells it, by the lines of the texts.
func slowDiff(a, b *schema.Schema) []Change {
	were, are := lines(a), lines(b)
	var list []Change
	for _, was := range were {
		at := slices.IndexFunc(are, was.named)
		if at < 0 {
			list = append(list, Change{was.space, was.name, 2, len(was.types()) > 0})
		} else if is := are[at]; is.text != was.text {
			lost := slices.DeleteFunc(was.types(), func(s string) bool { return slices.Contains(is.types(), s) })
			list = append(list, Change{was.space, was.name, 3, len(lost) > 0})
		}
	}
	for _, is := range are {
		if !slices.ContainsFunc(were, is.named) {
			list = append(list, Change{is.space, is.name, 1, false})
		}
	}
	return list
}

// told is a line of a schema's text that tells a relation.
type told struct{ space, name, text string }

// named: has another one the same namespace and name?
func (l told) named(other told) bool { return l.space == other.space && l.name == other.name }

// types: those that it tells.
func (l told) types() []string {
	head, _, _ := strings.Cut(l.text, " = ")
	_, types, found := strings.Cut(head, ": ")
	if !found {
		return nil
	}
	return strings.Split(types, ", ")
}

// lines: the relations of a schema, as its text tells them.
func lines(x *schema.Schema) []told {
	var list []told
	space := ""
	for line := range strings.Lines(Print(x)) {
		line = strings.TrimSuffix(line, "\n")
		if name, found := strings.CutPrefix(line, "namespace "); found {
			space = name
			continue
		}
		name := strings.Trim(strings.Fields(line)[1], ":")
		list = append(list, told{space, name, line})
	}
	return list
}
