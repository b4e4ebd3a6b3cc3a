package schema

import (
	"math/rand"
	"slices"
	"strings"
	"testing"

	"porter/api"
)

// P6.5: types name namespaces, and relations of them, wherever these stand.
func TestTypes(t *testing.T) {
	parse(t, "namespace a\nrelation r: a, b, a#r, b#s, a#q\nrelation q\nnamespace b\nrelation s: a#r")
	for text, line := range map[string]int{
		"namespace a\nrelation r: b":                                       1,
		"namespace a\nrelation r: r":                                       1,
		"namespace a\nrelation r: a, b":                                    1,
		"namespace a\nrelation r: b, a":                                    1,
		"namespace a\nrelation r: b#r":                                     1,
		"namespace a\nrelation r: a#b":                                     1,
		"namespace a\nrelation r: a#a":                                     1,
		"namespace a\nrelation r: a#r, a#r, a#s, a":                        1,
		"namespace a\nrelation r: b#r\nnamespace b\nrelation s":            1,
		"namespace a\nrelation r\n\nrelation s: b#r\nnamespace b":          3,
		"namespace a\nrelation r: a\nnamespace b\nrelation s: a#r, b#r":    3,
		"namespace a\nrelation this: a#this\nrelation r: a#this, this#a":   2,
		"namespace a\nrelation r: b = r - r\nrelation s = r":               1,
		"namespace a\nrelation r: b = zz":                                  1,
		"namespace a\nrelation r: aa\nrelation s = zz":                     1,
		"namespace a\nrelation r = r - r\nrelation s: zz\nrelation t = zz": 2,
	} {
		refused(t, text, api.ErrType, line)
	}
}

// P6.5: names lead to relations of the same namespace, vias to relations of others.
func TestNamesAndViasThatLeadSomewhere(t *testing.T) {
	for _, text := range []string{
		"namespace a\nrelation r = r",
		"namespace a\nrelation r = s\nrelation s",
		"namespace a\nrelation p: a\nrelation r = p->r",
		"namespace a\nrelation r = p->r\nrelation p: a",
		// One namespace that has it is enough.
		"namespace a\nrelation p: b, c\nrelation r = p->s\nnamespace b\nnamespace c\nrelation s",
		"namespace a\nrelation p: b, c, b#x\nrelation r = p->s\nnamespace b\nrelation x\nnamespace c\nrelation s",
		// What a relation follows from doesn't count for its types.
		"namespace a\nrelation p: b = q\nrelation q\nrelation r = p->s\nnamespace b\nrelation s",
	} {
		parse(t, text)
	}
	for text, line := range map[string]int{
		"namespace a\nrelation r = s":                          1,
		"namespace a\nrelation r = a":                          1,
		"namespace a\nrelation r = s\nnamespace b\nrelation s": 1,
		"namespace b\nrelation s\nnamespace a\nrelation r = s": 3,
		"namespace a\nrelation r = this | (this & (this - s))": 1,
		"namespace a\nrelation r = r - s":                      1,
		"namespace a\nrelation r = s - r":                      1,
		"namespace a\nrelation r\nrelation s = r | t":          2,
		// No relation Via; one of another namespace; one without types; one with types that have a # only.
		"namespace a\nrelation r = p->r":                                                      1,
		"namespace a\nrelation r = p->r\nnamespace b\nrelation p: a":                          1,
		"namespace a\nrelation p\nrelation r = p->r":                                          2,
		"namespace a\nrelation p: a#r\nrelation r = p->r":                                     2,
		"namespace a\nrelation p: b#s\nrelation r = p->s\nnamespace b\nrelation s":            2,
		"namespace a\nrelation p: b#s\nrelation r = p->b\nnamespace b\nrelation s":            2,
		"namespace a\nrelation p: b\nrelation r = p->r\nnamespace b":                          2,
		"namespace a\nrelation p: b = p->s | this\nrelation s\nnamespace b":                   1,
		"namespace a\nrelation p: b, b#x\nrelation r = p->s\nnamespace b\nrelation x":         2,
		"namespace a\nrelation p: a\nrelation r = p->a":                                       2,
		"namespace a\nrelation p = q\nrelation q: a\nrelation r = p->r":                       3,
		"namespace a\nrelation p: a\nrelation r = p->r | p->q":                                2,
		"namespace a\nrelation r = s - s\nrelation t: zz":                                     1,
		"namespace a\nrelation r = p->r\nrelation p: zz":                                      1,
		"namespace a\nrelation r = r - r\nrelation s = zz":                                    2,
		"namespace a\nrelation p: a\nrelation r = p->r - p->r\n\nnamespace b\nrelation r = p": 5,
	} {
		refused(t, text, api.ErrRelation, line)
	}
	// A via may lead on by the type that is there; the one that isn't is the other relation's fault.
	refused(t, "namespace a\nrelation r = p->r\nrelation p: a, zz", api.ErrType, 2)
	refused(t, "namespace a\nrelation r = p->r\nrelation p: zz, a", api.ErrType, 2)
}

// P6.5: what takes nothing away may ask in circles, and what takes away may ask for what doesn't ask for it.
func TestCirclesThatMayBe(t *testing.T) {
	for _, text := range []string{
		"namespace a\nrelation r: a#r",
		"namespace a\nrelation r = r | r & r",
		"namespace a\nrelation r = s\nrelation s = r",
		"namespace a\nrelation p: a\nrelation r = p->r | s\nrelation s = p->r",
		"namespace a\nrelation r = r - s\nrelation s",
		"namespace a\nrelation r = s - t\nrelation s = r\nrelation t",
		"namespace a\nrelation r: a#r = this - s\nrelation s",
		"namespace a\nrelation r = this - s\nrelation s = this - t\nrelation t = this - u\nrelation u",
		// Types that its Expr doesn't ask for aren't asked for.
		"namespace a\nrelation r = this - s\nrelation s: a#r = t\nrelation t",
		"namespace a\nrelation r: a#r = s - s\nrelation s",
		// Nor are users that a relation may have without #.
		"namespace a\nrelation r: a = this - this",
		"namespace a\nrelation p: a\nrelation r = s - p\nrelation s",
		// The same name in another namespace.
		"namespace a\nrelation p: b\nrelation r = this - p->r\nnamespace b\nrelation r",
		"namespace a\nrelation p: a, b\nrelation s = this - p->r\nnamespace b\nrelation r\nrelation s",
	} {
		parse(t, text)
	}
}

// P6.5
func TestCircles(t *testing.T) {
	for text, line := range map[string]int{
		"namespace a\nrelation r = this - r":                     1,
		"namespace a\nrelation r = r - r":                        1,
		"namespace a\nrelation r = this | this & (this - r)":     1,
		"namespace a\nrelation r = this - r - this":              1,
		"namespace a\nrelation r: a#r = this - this":             1,
		"namespace a\nrelation r: a#r = s - this\nrelation s":    1,
		"namespace a\nrelation p: a\nrelation r = this - p->r":   2,
		"namespace a\nrelation p: a = this - p->p":               1,
		"namespace a\nrelation p: a\nrelation r = p - (p - r)":   2,
		"namespace a\nrelation p: a\nrelation r = p - (p | r)":   2,
		"namespace a\nrelation p: a\nrelation r = p - (p & r)":   2,
		"namespace a\nrelation p: a\nrelation r = p - ((r) - p)": 2,
		"namespace a\nrelation p: a\nrelation r = (p - r) - p":   2,
		"namespace a\nrelation p: a\nrelation r = (p - r) | p":   2,
		"namespace a\nrelation p: a\nrelation r = p & (p - r)":   2,
		// By others, on any way.
		"namespace a\nrelation r = this - s\nrelation s = r":                                                                 1,
		"namespace a\nrelation s = r\nrelation r = this - s":                                                                 2,
		"namespace a\nrelation q\nrelation r = q - s\nrelation s = q | t\nrelation t = q & r":                                2,
		"namespace a\nrelation s: a#r\nrelation r = this - s":                                                                2,
		"namespace a\nrelation p: a\nrelation s = p->r\nrelation r = this - s":                                               3,
		"namespace a\nrelation q\nrelation r = q - s\nrelation s = q - r":                                                    2,
		"namespace a\nrelation q\nrelation s = t\nrelation t = q - u\nrelation u = s":                                        3,
		"namespace a\nrelation q: b\nrelation r = this - q->r\nnamespace b\nrelation q: a\nrelation r = q->r":                2,
		"namespace a\nrelation q: b, c\nrelation r = this - q->r\nnamespace b\nnamespace c\nrelation r: a#r":                 2,
		"namespace a\nrelation q\nnamespace b\nrelation r: a\n\nrelation s: b#s = q | this - this\nrelation q":               5,
		"namespace a\nrelation q: a\nrelation p: a\nrelation r = this - q->s\nrelation s = p->t\nrelation t: a#s, a, a#r, a": 3,
	} {
		refused(t, text, api.ErrCycle, line)
	}
}

// model is a relation of a namespace, as it is written into a text.
type model struct {
	space string
	Relation
}

// full: its name with its namespace's.
func (m model) full() string { return m.space + "#" + m.Name }

// models: some relations of some namespaces, by name.
type models []model

// find: the relation with that full name.
func (list models) find(full string) (model, bool) {
	for _, m := range list {
		if m.full() == full {
			return m, true
		}
	}
	return model{}, false
}

// asks: the full names of those for which an expression asks; that of what isn't there too, but not by a via.
func (list models) asks(m model, e Expr) []string {
	var names []string
	switch e.Op {
	case "this":
		names = slices.DeleteFunc(slices.Clone(m.Types), func(s string) bool { return !strings.Contains(s, "#") })
	case "name":
		names = []string{m.space + "#" + e.Name}
	case "via":
		via, _ := list.find(m.space + "#" + e.Via)
		for _, space := range via.Types {
			if _, found := list.find(space + "#" + e.Name); found && !strings.Contains(space, "#") {
				names = append(names, space+"#"+e.Name)
			}
		}
	default:
		names = append(list.asks(m, e.Args[0]), list.asks(m, e.Args[1])...)
	}
	return names
}

// takes: the full names of those that an expression takes away.
func (list models) takes(m model, e Expr) []string {
	var names []string
	for i, arg := range e.Args {
		if e.Op == "-" && i == 1 {
			names = append(names, list.asks(m, arg)...)
		}
		names = append(names, list.takes(m, arg)...)
	}
	return names
}

// lost: does some part of an expression lead nowhere?
func (list models) lost(m model, e Expr) bool {
	for _, arg := range e.Args {
		if list.lost(m, arg) {
			return true
		}
	}
	switch e.Op {
	case "name":
		_, found := list.find(m.space + "#" + e.Name)
		return !found
	case "via":
		return len(list.asks(m, e)) == 0
	}
	return false
}

// mistyped: does a type of a relation name what isn't there?
func (list models) mistyped(spaces []string, m model) bool {
	for _, name := range m.Types {
		if _, found := list.find(name); !found && !slices.Contains(spaces, name) {
			return true
		}
	}
	return false
}

// ways: from which full name to which there is a way, by as many others as there are.
func (list models) ways() map[[2]string]bool {
	ways := map[[2]string]bool{}
	for _, m := range list {
		ways[[2]string{m.full(), m.full()}] = true
		for _, name := range list.asks(m, m.Expr) {
			ways[[2]string{m.full(), name}] = true
		}
	}
	for _, by := range list {
		for _, a := range list {
			for _, b := range list {
				if ways[[2]string{a.full(), by.full()}] && ways[[2]string{by.full(), b.full()}] {
					ways[[2]string{a.full(), b.full()}] = true
				}
			}
		}
	}
	return ways
}

// verdict: which error which relation has; -1: none.
func (list models) verdict(spaces []string) (api.Errno, int) {
	for i, m := range list {
		if list.mistyped(spaces, m) {
			return api.ErrType, i
		}
		if list.lost(m, m.Expr) {
			return api.ErrRelation, i
		}
	}
	ways := list.ways()
	for i, m := range list {
		for _, name := range list.takes(m, m.Expr) {
			if ways[[2]string{name, m.full()}] {
				return api.ErrCycle, i
			}
		}
	}
	return api.OK, -1
}

// randomModels: relations of these namespaces, of which some may name what isn't there.
func randomModels(random *rand.Rand, spaces []string) models {
	relations := []string{"p", "q", "r", "s"}
	var list models
	for _, space := range spaces {
		for _, name := range relations {
			m := model{space, Relation{Name: name, Expr: randomExpr(random, relations, random.Intn(3))}}
			for range random.Intn(5) {
				full := spaces[random.Intn(len(spaces))]
				if random.Intn(3) == 0 {
					full += "#" + relations[random.Intn(len(relations))]
				}
				m.Types = append(m.Types, full)
			}
			if random.Intn(200) == 0 {
				m.Types = append(m.Types, "zz")
			}
			if random.Intn(30) > 0 {
				list = append(list, m)
			}
		}
	}
	return list
}

// text: a text of these, and in which line each stands.
func (list models) text(random *rand.Rand, spaces []string) (string, []int) {
	var text []string
	var lines []int
	for _, space := range spaces {
		text = append(text, "namespace "+space)
		for _, m := range list {
			if m.space != space {
				continue
			}
			line := "relation " + m.Name
			if len(m.Types) > 0 {
				line += ": " + strings.Join(m.Types, ", ")
			}
			lines = append(lines, len(text))
			text = append(text, line+" = "+write(random, m.Expr, 0))
		}
	}
	return strings.Join(text, "\n"), lines
}

// P6.5: any schemas, against another way to judge them.
func TestManySchemas(t *testing.T) {
	random := rand.New(rand.NewSource(65))
	told := map[api.Errno]int{}
	for range 6000 {
		spaces := []string{"a", "b", "c"}[:1+random.Intn(3)]
		list := randomModels(random, spaces)
		want, at := list.verdict(spaces)
		told[want]++
		text, lines := list.text(random, spaces)
		if want != api.OK {
			refused(t, text, want, lines[at])
			continue
		}
		x := parse(t, text)
		for _, m := range list {
			if r := find(t, x, m.space, m.Name); show(r.Expr) != show(m.Expr) || !slices.Equal(r.Types, m.Types) {
				t.Errorf("%q: %v, want %v", text, r, m)
			}
		}
	}
	for _, e := range []api.Errno{api.OK, api.ErrType, api.ErrRelation, api.ErrCycle} {
		if told[e] < 100 {
			t.Errorf("%v was told %d times only", e, told[e])
		}
	}
}
