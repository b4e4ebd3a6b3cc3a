package schema

import (
	"math/rand"
	"reflect"
	"slices"
	"strings"
	"testing"

	"porter/api"
)

// longest: a name that has as many bytes as one may have.
var longest = strings.Repeat("n", api.MaxName)

// parse: the schema of a text that is right.
func parse(t *testing.T, text string) *Schema {
	t.Helper()
	x, e, line := Parse(text)
	if x == nil || e != api.OK || line != 0 {
		t.Fatalf("%q: %v in %d", text, e, line)
	}
	return x
}

// refused: a text with an error in a line has no schema.
func refused(t *testing.T, text string, want api.Errno, in int) {
	t.Helper()
	if x, e, line := Parse(text); x != nil || e != want || line != in {
		t.Errorf("%q: a schema: %v, %v in %d, want %v in %d", text, x != nil, e, line, want, in)
	}
}

// find: a relation that is known to be there.
func find(t *testing.T, x *Schema, space, relation string) Relation {
	t.Helper()
	r, e := x.Find(space, relation)
	if e != api.OK || r.Name != relation {
		t.Fatalf("Find(%q, %q) = %v, %v", space, relation, r, e)
	}
	return r
}

// show: an expression with brackets round each operator.
func show(e Expr) string {
	switch e.Op {
	case "this":
		return "this"
	case "name":
		return e.Name
	case "via":
		return e.Via + "->" + e.Name
	}
	return "(" + show(e.Args[0]) + e.Op + show(e.Args[1]) + ")"
}

// wellMade: has an expression just the fields that its Op gives a meaning?
func wellMade(e Expr) bool {
	switch e.Op {
	case "this":
		return e.Name == "" && e.Via == "" && len(e.Args) == 0
	case "name":
		return e.Name != "" && e.Via == "" && len(e.Args) == 0
	case "via":
		return e.Name != "" && e.Via != "" && len(e.Args) == 0
	case "|", "&", "-":
		return e.Name == "" && e.Via == "" && len(e.Args) == 2 && wellMade(e.Args[0]) && wellMade(e.Args[1])
	}
	return false
}

// base: a namespace with relations that expressions may name, in three lines and more; what follows it stands in line 7.
const base = `namespace u
namespace d
relation p: d
relation a: u
relation b: u
relation c: u
relation d: u
`

// P6.1 and P6.2: the examples of the chapter.
func TestExamples(t *testing.T) {
	x := parse(t, "namespace user\nnamespace group\nrelation member: user\nnamespace doc\nrelation owner: user\nrelation viewer: user, group#member = this | owner")
	want := Relation{Name: "viewer", Types: []string{"user", "group#member"}, Expr: Expr{Op: "|", Args: []Expr{{Op: "this"}, {Op: "name", Name: "owner"}}}}
	if got := find(t, x, "doc", "viewer"); !reflect.DeepEqual(got, want) {
		t.Errorf("%v, want %v", got, want)
	}
	refused(t, "namespace user\nnamespace doc\nrelation gone: user = this - gone", api.ErrCycle, 2)
}

// P6.1: blanks may stand anywhere between tokens, or not.
func TestBlanks(t *testing.T) {
	for _, line := range []string{
		"relation x:u,d#a=this|(a&p->b)-c",
		"  relation   x  :  u  ,  d  #  a  =  this  |  (  a  &  p  ->  b  )  -  c  ",
		"relation x : u ,d# a= this| (a& p-> b) -c",
	} {
		r := find(t, parse(t, base+line), "d", "x")
		if !slices.Equal(r.Types, []string{"u", "d#a"}) || show(r.Expr) != "(this|((a&p->b)-c))" {
			t.Errorf("%q: %q, %q", line, r.Types, show(r.Expr))
		}
	}
	x := parse(t, "   \n namespace a \n\n     \n  namespace   b\n relation r")
	if !slices.Equal(x.Spaces(), []string{"a", "b"}) || len(x.Relations("b")) != 1 {
		t.Errorf("%q, %v", x.Spaces(), x.Relations("b"))
	}
}

// P6.1: each byte that is in no token, wherever it stands.
func TestBytesThatAreInNoToken(t *testing.T) {
	for i := range 256 {
		b := string([]byte{byte(i)})
		if strings.Contains("abcdefghijklmnopqrstuvwxyz0123456789_ \n:,#=|&-()", b) {
			continue
		}
		for _, line := range []string{b, "relation x" + b, b + "relation x", "relation x = a" + b, "relation" + b + "x", "relation x = | " + b, "relation x = this " + b + " this"} {
			refused(t, base+line, api.ErrLine, 7)
		}
	}
}

// P6.1: a sign of two bytes is one token, and is tried first.
func TestArrow(t *testing.T) {
	if got := show(find(t, parse(t, base+"relation x=p->a-b-p->c"), "d", "x").Expr); got != "((p->a-b)-p->c)" {
		t.Error(got)
	}
	refused(t, base+"relation x = p - > a", api.ErrLine, 7)
	refused(t, base+"relation x = p > a", api.ErrLine, 7)
	refused(t, base+"relation x = p -->a", api.ErrExpr, 7)
	refused(t, base+"relation x = a->-b", api.ErrExpr, 7)
}

// P6.1: names of each length; they end where none of their bytes stands any more.
func TestLengthsOfNames(t *testing.T) {
	for size := 1; size < 70; size++ {
		name := strings.Repeat("z", size)
		text := "namespace " + name + "\nrelation " + name + ":" + name + "," + name + "#" + name + "=this|" + name + "|" + name + "->" + name
		if size > 32 {
			refused(t, text, api.ErrLine, 0)
			// Not even the error of an expression comes ahead of it.
			refused(t, base+"relation x = | "+name, api.ErrLine, 7)
			refused(t, base+"relation a"+name, api.ErrLine, 7)
			continue
		}
		r := find(t, parse(t, text), name, name)
		if !slices.Equal(r.Types, []string{name, name + "#" + name}) {
			t.Errorf("%d bytes: %q", size, r.Types)
		}
	}
	for _, name := range []string{"namespace", "relation", "this", "_", "0", "9a_"} {
		x := parse(t, "namespace "+name+"\nrelation "+name+": "+name+", "+name+"#"+name)
		if r := find(t, x, name, name); !slices.Equal(r.Types, []string{name, name + "#" + name}) {
			t.Errorf("%q: %q", name, r.Types)
		}
	}
	x := parse(t, "namespace namespace\nrelation relation = relation | namespace->relation\nrelation namespace: namespace")
	if got := show(find(t, x, "namespace", "relation").Expr); got != "(relation|namespace->relation)" {
		t.Error(got)
	}
}

// P6.2: a relation is of the last namespace ahead of it; what isn't told is this, and no types.
func TestLines(t *testing.T) {
	x := parse(t, "\nnamespace a\nrelation r\nrelation s:b,a,b,b#r\nnamespace b\n\nrelation r=s\nrelation s : b = r")
	want := map[string][]Relation{
		"a": {{Name: "r", Expr: Expr{Op: "this"}}, {Name: "s", Types: []string{"b", "a", "b", "b#r"}, Expr: Expr{Op: "this"}}},
		"b": {{Name: "r", Expr: Expr{Op: "name", Name: "s"}}, {Name: "s", Types: []string{"b"}, Expr: Expr{Op: "name", Name: "r"}}},
	}
	for space, list := range want {
		if got := x.Relations(space); !reflect.DeepEqual(got, list) {
			t.Errorf("%q: %v, want %v", space, got, list)
		}
	}
	for _, text := range []string{"", "\n", "   ", "\n\n \n"} {
		if x := parse(t, text); len(x.Spaces()) != 0 {
			t.Errorf("%q: %q", text, x.Spaces())
		}
	}
}

// P6.3: what binds how.
func TestExpressions(t *testing.T) {
	for text, want := range map[string]string{
		"this":                    "this",
		"a":                       "a",
		"p->a":                    "p->a",
		"p->namespace":            "p->namespace",
		"(a)":                     "a",
		"((this))":                "this",
		"(p->a)":                  "p->a",
		"a|b|c|d":                 "(((a|b)|c)|d)",
		"a&b&c":                   "((a&b)&c)",
		"a-b-c":                   "((a-b)-c)",
		"a-b&c":                   "((a-b)&c)",
		"a&b-c":                   "((a&b)-c)",
		"a|b&c":                   "(a|(b&c))",
		"a&b|c":                   "((a&b)|c)",
		"a-b|c-d":                 "((a-b)|(c-d))",
		"a|b-c|d":                 "((a|(b-c))|d)",
		"a|(b|c)":                 "(a|(b|c))",
		"a-(b-c)":                 "(a-(b-c))",
		"a&(b|c)&d":               "((a&(b|c))&d)",
		"(a|b)&(c|d)":             "((a|b)&(c|d))",
		"this-p->a&(this|p->b)":   "((this-p->a)&(this|p->b))",
		"this|this":               "(this|this)",
		"(((a)|((b))))":           "(a|b)",
		"thisx|athis":             "(thisx|athis)",
		"this_|this0":             "(this_|this0)",
		"namespace|relation|name": "((namespace|relation)|name)",
	} {
		x := parse(t, base+"relation x = "+text+"\nrelation namespace\nrelation relation\nrelation name\nrelation thisx\nrelation athis\nrelation this_\nrelation this0")
		r := find(t, x, "d", "x")
		if got := show(r.Expr); got != want || !wellMade(r.Expr) {
			t.Errorf("%q: %v, want %q", text, r.Expr, want)
		}
	}
}

// randomExpr: any expression of some names, so deep at most.
func randomExpr(random *rand.Rand, names []string, depth int) Expr {
	name := func() string { return names[random.Intn(len(names))] }
	kind := random.Intn(7)
	if depth == 0 {
		kind %= 3
	}
	switch kind {
	case 0:
		return Expr{Op: "this"}
	case 1:
		return Expr{Op: "name", Name: name()}
	case 2:
		return Expr{Op: "via", Via: name(), Name: name()}
	}
	op := []string{"|", "&", "-"}[random.Intn(3)]
	return Expr{Op: op, Args: []Expr{randomExpr(random, names, depth-1), randomExpr(random, names, depth-1)}}
}

// write: an expression as a text, in brackets if it binds less than the loosest that may stand where it stands, and sometimes if it doesn't.
func write(random *rand.Rand, e Expr, loosest int) string {
	s, binds := "", 2
	switch e.Op {
	case "|":
		s, binds = write(random, e.Args[0], 0)+"|"+write(random, e.Args[1], 1), 0
	case "&", "-":
		s, binds = write(random, e.Args[0], 1)+e.Op+write(random, e.Args[1], 2), 1
	default:
		s = show(e)
	}
	if binds < loosest || random.Intn(8) == 0 {
		return "( " + s + ")"
	}
	return s
}

// P6.3: any expressions, written and read.
func TestManyExpressions(t *testing.T) {
	random := rand.New(rand.NewSource(6))
	names := []string{"aa", "p", "this_", "x0"}
	text := "namespace d\n"
	for _, name := range names {
		text += "relation " + name + ": d\n"
	}
	for range 2000 {
		e := randomExpr(random, names, 5)
		s := write(random, e, 0)
		x, code, _ := Parse(text + "relation x = " + s)
		if code != api.OK {
			t.Fatalf("%q: %v", s, code)
		}
		if r := find(t, x, "d", "x"); !reflect.DeepEqual(r.Expr, e) {
			t.Fatalf("%q: %q, want %q", s, show(r.Expr), show(e))
		}
	}
}

// P6.3: so many brackets within one another, and no more; beside one another any number.
func TestBracketsWithinOneAnother(t *testing.T) {
	deep := func(n int, inside string) string { return strings.Repeat("(", n) + inside + strings.Repeat(")", n) }
	for _, s := range []string{deep(16, "a"), deep(16, "a|b"), "a&" + deep(16, "this"), deep(15, "(a)|(b)"), deep(16, "a") + "|" + deep(16, "b"), deep(8, deep(8, "a")), "(a)|" + strings.Repeat("(b)|", 100) + "c"} {
		parse(t, base+"relation x = "+s)
	}
	for _, s := range []string{deep(17, "a"), "a&" + deep(17, "this"), deep(15, "(a)|((b))"), deep(16, "a") + "|" + deep(17, "b"), deep(4000, "a"), strings.Repeat("(", 17), strings.Repeat("(", 17) + ":"} {
		refused(t, base+"relation x = "+s, api.ErrExpr, 7)
	}
}

// P6.4: the errors of a line by itself.
func TestLinesThatAreNotRight(t *testing.T) {
	for line, want := range map[string]api.Errno{
		"what": api.ErrLine, ":": api.ErrLine, "this": api.ErrLine, "d": api.ErrLine, "namespaces x": api.ErrLine, "(": api.ErrLine,
		"namespace": api.ErrLine, "namespace :": api.ErrLine, "namespace x y": api.ErrLine, "namespace x:": api.ErrLine, "namespace x = a": api.ErrLine, "namespace namespace x": api.ErrLine,
		"relation": api.ErrLine, "relation = a": api.ErrLine, "relation : u": api.ErrLine, "relation x y": api.ErrLine, "relation x , u": api.ErrLine,
		"relation x:": api.ErrLine, "relation x: ,": api.ErrLine, "relation x: u,": api.ErrLine, "relation x: u,,u": api.ErrLine, "relation x: u u": api.ErrLine,
		"relation x: u#": api.ErrLine, "relation x: #a": api.ErrLine, "relation x: u#a#b": api.ErrLine, "relation x: u:a": api.ErrLine, "relation x: u : u": api.ErrLine,
		"relation x: = a": api.ErrLine, "relation x: u, = a": api.ErrLine, "relation x: (u)": api.ErrLine, "relation x: u | u": api.ErrLine, "relation x: u->u": api.ErrLine,
		"relation x =": api.ErrExpr, "relation x: u =": api.ErrExpr, "relation x = |": api.ErrExpr, "relation x = = a": api.ErrExpr, "relation x = : u": api.ErrExpr, "relation x = a |": api.ErrExpr, "relation x = | a": api.ErrExpr,
		"relation x = a & | b": api.ErrExpr, "relation x = a - - b": api.ErrExpr, "relation x = a ->": api.ErrExpr, "relation x = -> a": api.ErrExpr, "relation x = a -> (b)": api.ErrExpr, "relation x = a -> | b": api.ErrExpr,
		"relation x = (": api.ErrExpr, "relation x = ()": api.ErrExpr, "relation x = (a": api.ErrExpr, "relation x = ((a)": api.ErrExpr, "relation x = )": api.ErrExpr, "relation x = (a b)": api.ErrExpr, "relation x = (a : u)": api.ErrExpr, "relation x = (a = b)": api.ErrExpr, "relation x = (a |)": api.ErrExpr, "relation x = (a (b))": api.ErrExpr,
		// An expression stands there; what can't be so stands behind it.
		"relation x = a b": api.ErrLine, "relation x = this this": api.ErrLine, "relation x = a)": api.ErrLine, "relation x = (a))": api.ErrLine, "relation x = a (b)": api.ErrLine, "relation x = (a) b": api.ErrLine, "relation x = (a)(b)": api.ErrLine,
		"relation x = a : u": api.ErrLine, "relation x = a, b": api.ErrLine, "relation x = a = b": api.ErrLine, "relation x = a # b": api.ErrLine, "relation x = p->a->b": api.ErrLine, "relation x = (p)->a": api.ErrLine, "relation x = a|b:": api.ErrLine, "relation x = a relation y": api.ErrLine, "relation x = a |b )|": api.ErrLine,
		// The word this is no name in an expression.
		"relation x = this -> a": api.ErrLine, "relation x = p -> this": api.ErrExpr, "relation x = (this -> a)": api.ErrExpr, "relation x = a | this -> a": api.ErrLine, "relation x = a & p -> this | b": api.ErrExpr,
		// The first place counts.
		"relation x: = |": api.ErrLine, "relation x y = |": api.ErrLine, "relation x = a b |": api.ErrLine, "relation x = | a b": api.ErrExpr, "relation x: u, = (": api.ErrLine,
		// ErrTwice is told of lines that are right but for it.
		"namespace d": api.ErrTwice, "namespace u": api.ErrTwice, "relation a": api.ErrTwice, "relation d: u": api.ErrTwice, "relation a: zz#y = zz": api.ErrTwice, "relation p": api.ErrTwice,
		"namespace d d": api.ErrLine, "relation a a": api.ErrLine, "relation a:": api.ErrLine, "relation a = |": api.ErrExpr, "relation a = b c": api.ErrLine, "relation a = (": api.ErrExpr, "relation a ?": api.ErrLine, "namespace d ?": api.ErrLine,
	} {
		refused(t, base+line, want, 7)
		// What stands behind it counts no more, nor does what holds of the relations together.
		refused(t, base+line+"\nnamespace d\n?", want, 7)
		refused(t, base+"relation zz: none = none\n"+line, want, 8)
		refused(t, "\n \n"+base+"\n"+line+"\n", want, 10)
	}
}

// P6.4: names may be there twice in other places.
func TestNamesThatMayBeThereTwice(t *testing.T) {
	x := parse(t, "namespace a\nrelation a\nrelation b\nnamespace b\nrelation a\nrelation b: a,a,b#a,b#a = this|this|a")
	if len(x.Relations("a")) != 2 || len(x.Relations("b")) != 2 {
		t.Errorf("%v", x)
	}
	refused(t, "namespace a\nnamespace b\nnamespace a", api.ErrTwice, 2)
	refused(t, "namespace a\nrelation r\nnamespace b\nrelation r\nrelation r", api.ErrTwice, 4)
}

// P6.2: no relation without a namespace ahead, whatever it is.
func TestRelationsWithoutANamespace(t *testing.T) {
	for _, line := range []string{"relation r", "relation", "relation r = |", "relation r: a", "relation r ="} {
		refused(t, line, api.ErrLine, 0)
		refused(t, "\n\n"+line+"\nnamespace a", api.ErrLine, 2)
	}
}

// P6.4
func TestLengthOfTexts(t *testing.T) {
	for _, fill := range []string{" ", "\n"} {
		text := "namespace a\nrelation r" + strings.Repeat(fill, MaxText)
		parse(t, text[:MaxText])
		refused(t, text[:MaxText+1], api.ErrLong, 0)
		refused(t, text, api.ErrLong, 0)
	}
	refused(t, strings.Repeat("\n", MaxText-1)+"?", api.ErrLine, MaxText-1)
	refused(t, strings.Repeat("\n", MaxText)+"?", api.ErrLong, 0)
	x := parse(t, "namespace a\nrelation r="+strings.Repeat("r|", (MaxText-23)/2)+"r")
	if got := strings.Count(show(find(t, x, "a", "r").Expr), "|"); got != (MaxText-23)/2 {
		t.Errorf("%d operators", got)
	}
}

// three: a schema of three namespaces.
const three = `namespace user
namespace group
relation member: user, group#member
namespace doc
relation parent: doc, user
relation owner: user = (this)
relation viewer: user, group#member = this | owner | parent->viewer - (owner & this)
relation shown = viewer
`

// P6.6
func TestSpacesAndRelations(t *testing.T) {
	x := parse(t, three)
	if got := x.Spaces(); !slices.Equal(got, []string{"user", "group", "doc"}) {
		t.Errorf("Spaces: %q", got)
	}
	for space, want := range map[string][]string{"user": nil, "group": {"member"}, "doc": {"parent", "owner", "viewer", "shown"}} {
		list := x.Relations(space)
		var names []string
		for _, r := range list {
			names = append(names, r.Name)
			if found := find(t, x, space, r.Name); !reflect.DeepEqual(found, r) {
				t.Errorf("Find: %v, Relations: %v", found, r)
			}
		}
		if !slices.Equal(names, want) {
			t.Errorf("Relations(%q): %q, want %q", space, names, want)
		}
	}
	for _, space := range []string{"", "Doc", "docs", "doc ", "viewer", "doc#viewer", "group#member", "namespace", "\xff"} {
		if list := x.Relations(space); len(list) != 0 {
			t.Errorf("Relations(%q): %v", space, list)
		}
	}
}

// P6.6
func TestFindOfWhatIsNotThere(t *testing.T) {
	x := parse(t, three)
	for _, at := range [][2]string{{"", ""}, {"doc", ""}, {"", "viewer"}, {"doc", "member"}, {"group", "viewer"}, {"user", "user"}, {"viewer", "doc"}, {"docs", "viewer"}, {"doc", "viewer "}, {"group#member", ""}, {"doc", "this"}, {"\x00", "\xff"}} {
		if r, e := x.Find(at[0], at[1]); !reflect.DeepEqual(r, Relation{}) || e != api.ErrRelation {
			t.Errorf("Find(%q): %v, %v", at, r, e)
		}
	}
}

// P6.6
func TestAllows(t *testing.T) {
	x := parse(t, three)
	for _, c := range []struct {
		object, relation, user string
		want                   api.Errno
	}{
		{"doc:a", "viewer", "user:ann", api.OK},
		{"doc:a", "viewer", "group:b#member", api.OK},
		{"group:a", "member", "group:a#member", api.OK},
		{"doc:a", "parent", "doc:a", api.OK},
		{"doc:" + longest, "parent", "user:" + longest, api.OK},
		{"doc:a", "viewer", "group:b", api.ErrType},
		{"doc:a", "viewer", "group:b#owner", api.ErrType},
		{"doc:a", "viewer", "user:ann#member", api.ErrType},
		{"doc:a", "viewer", "doc:a", api.ErrType},
		{"doc:a", "viewer", "none:a", api.ErrType},
		{"doc:a", "owner", "group:b#member", api.ErrType},
		{"doc:a", "parent", "doc:a#parent", api.ErrType},
		// A relation that has no types takes no user, whatever it follows from.
		{"doc:a", "shown", "user:ann", api.ErrType},
		{"doc:a", "member", "user:ann", api.ErrRelation},
		{"group:a", "viewer", "user:ann", api.ErrRelation},
		{"user:a", "viewer", "user:ann", api.ErrRelation},
		{"none:a", "viewer", "user:ann", api.ErrRelation},
		{"none:a", "none", "none:a", api.ErrRelation},
		// Layer 5's errors stand ahead of the others.
		{"", "", "", api.ErrForm},
		{"doc", "none", "none", api.ErrForm},
		{"Doc:a", "none", "none", api.ErrName},
		{"none:a", "", "none:a", api.ErrName},
		{"none:a", "none", "none", api.ErrForm},
		{"doc:a", "viewer", "user:ann#", api.ErrName},
		{"doc:a", "viewer", "user", api.ErrForm},
		{"doc:a", "viewer", "user:Ann", api.ErrName},
	} {
		y := api.Tuple{Object: c.object, Relation: c.relation, User: c.user}
		if e := x.Allows(y); e != c.want {
			t.Errorf("%q: %v, want %v", y, e, c.want)
		}
	}
}

// P1, and what holds of the schemas of any texts.
func FuzzNothingPanics(f *testing.F) {
	for _, text := range []string{"", three, base, base + "relation x = (a|b)&c-p->d", "namespace a\nrelation r: a#r = this - r", "namespace a\nrelation r = ((", "?\n", "\xff\x00"} {
		f.Add(text, "doc:a#viewer@user:ann")
	}
	f.Fuzz(func(t *testing.T, text, word string) {
		x, e, line := Parse(text)
		if e != api.OK {
			if x != nil || line < 0 || line > strings.Count(text, "\n") {
				t.Errorf("%q: %v, %v in %d", text, x, e, line)
			}
			return
		}
		if x == nil || line != 0 {
			t.Fatalf("%q: %v in %d", text, x, line)
		}
		for _, space := range append(x.Spaces(), word, "") {
			for _, r := range x.Relations(space) {
				if found, e := x.Find(space, r.Name); e != api.OK || !reflect.DeepEqual(found, r) || !wellMade(r.Expr) {
					t.Errorf("%q: Find %v, %v, Relations %v", text, found, e, r)
				}
				for _, user := range r.Types {
					user = strings.Replace(user+"#", "#", ":x#", 1)
					if e := x.Allows(api.Tuple{Object: space + ":x", Relation: r.Name, User: strings.TrimSuffix(user, "#")}); e != api.OK {
						t.Errorf("%q: %q isn't allowed: %v", text, user, e)
					}
				}
			}
		}
		x.Find(word, word)
		x.Allows(api.Tuple{Object: word, Relation: word, User: word})
	})
}

// scribble writes into all lists of relations, their spare room too.
func scribble(list []Relation) {
	list = list[:cap(list)]
	for i := range list {
		clear(list[i].Types[:cap(list[i].Types)])
		scribbleExpr(&list[i].Expr)
	}
	clear(list)
}

// scribbleExpr writes into an expression and all lists of it.
func scribbleExpr(e *Expr) {
	args := e.Args[:cap(e.Args)]
	for i := range args {
		scribbleExpr(&args[i])
	}
	clear(args)
	*e = Expr{}
}

// P2: what is answered is new memory, its spare room too.
func TestAnswersAreNewMemory(t *testing.T) {
	x, kept := parse(t, three), parse(t, three)
	for range 2 {
		spaces := x.Spaces()
		clear(spaces[:cap(spaces)])
		for _, space := range kept.Spaces() {
			list, other := x.Relations(space), x.Relations(space)
			if len(list) > 0 {
				one := find(t, x, space, list[len(list)-1].Name)
				scribble([]Relation{one})
			}
			scribble(list)
			if !reflect.DeepEqual(other, kept.Relations(space)) {
				t.Errorf("two answers share memory: %v", other)
			}
		}
		if !reflect.DeepEqual(x, kept) {
			t.Fatalf("an answer shares what is kept: %v, want %v", x, kept)
		}
	}
}

// P2: no two lists of one answer share any.
func TestListsOfOneAnswer(t *testing.T) {
	x, kept := parse(t, three), parse(t, three)
	list := x.Relations("doc")
	for i := range list {
		scribble(list[i : i+1 : i+1])
		if want := kept.Relations("doc")[i+1:]; !reflect.DeepEqual(list[i+1:], append([]Relation{}, want...)) {
			t.Errorf("relation %d shares memory with others: %v", i, list)
		}
	}
	r := find(t, x, "doc", "viewer")
	right := find(t, kept, "doc", "viewer").Expr.Args[1]
	scribbleExpr(&r.Expr.Args[0])
	if !reflect.DeepEqual(r.Expr.Args[1], right) {
		t.Errorf("two operands share memory: %v", r.Expr)
	}
}

// P2: two schemas of one text go by themselves, and a refused text changes none.
func TestSchemasByThemselves(t *testing.T) {
	x := parse(t, three)
	kept := x.Relations("doc")
	Parse(three + "relation shown")
	Parse(three + "relation more: user")
	if _, e := x.Find("doc", "more"); e != api.ErrRelation || !reflect.DeepEqual(x.Relations("doc"), kept) {
		t.Errorf("%v", x.Relations("doc"))
	}
}
