package check

import (
	"math"
	"slices"
	"strconv"
	"strings"
	"testing"

	"porter/api"
	"porter/schema"
	"porter/tuple"
)

// parse: the schema of a text, which must be right.
func parse(t *testing.T, text string) *schema.Schema {
	t.Helper()
	x, e, line := schema.Parse(text)
	if e != api.OK {
		t.Fatalf("%q: %v in line %d", text, e, line)
	}
	return x
}

// source: some tuples of texts, which the schema allows.
func source(t *testing.T, x *schema.Schema, texts ...string) *tuples {
	t.Helper()
	s := &tuples{failing: map[place]api.Errno{}}
	for _, text := range texts {
		y, e := tuple.Parse(text)
		if e != api.OK || x.Allows(y) != api.OK {
			t.Fatalf("%q: %v, %v", text, e, x.Allows(y))
		}
		s.list = append(s.list, y)
	}
	return s
}

// expands: does Expand of object#relation answer these users, with as many questions as the budget, and none with less?
func expands(t *testing.T, x *schema.Schema, src Source, at string, questions int, want ...string) {
	t.Helper()
	object, relation, _ := strings.Cut(at, "#")
	for _, budget := range []int{questions, questions + 1, MaxBudget} {
		if users, e := Expand(x, src, object, relation, min(budget, MaxBudget)); !slices.Equal(users, want) || e != api.OK {
			t.Errorf("Expand(%q, %d): %q, %v, want %q", at, budget, users, e, want)
		}
		for _, user := range append(want, "user:none", "doc:a") {
			found, e := Check(x, src, api.Tuple{Object: object, Relation: relation, User: user}, min(budget, MaxBudget))
			if found != slices.Contains(want, user) || e != api.OK {
				t.Errorf("Check(%q, %q, %d): %v, %v", at, user, budget, found, e)
			}
		}
	}
	for budget := max(1, questions-9); budget < questions; budget++ {
		refused(t, x, src, at, budget, api.ErrBudget)
	}
}

// refused: have Expand and Check of object#relation this error?
func refused(t *testing.T, x *schema.Schema, src Source, at string, budget int, want api.Errno) {
	t.Helper()
	object, relation, _ := strings.Cut(at, "#")
	if users, e := Expand(x, src, object, relation, budget); len(users) > 0 || e != want {
		t.Errorf("Expand(%q, %d): %q, %v, want %v", at, budget, users, e, want)
	}
	if found, e := Check(x, src, api.Tuple{Object: object, Relation: relation, User: "user:ann"}, budget); found || e != want {
		t.Errorf("Check(%q, %d): %v, %v, want %v", at, budget, found, e, want)
	}
}

// three: a schema of three namespaces.
const three = `namespace user
namespace group
relation member: user, group#member
namespace doc
relation parent: doc, group
relation banned: user
relation owner: user
relation viewer: user, group#member = this - banned
relation reader: user = this | owner | parent->reader
relation seen: user, doc, group#member = this & owner
`

// P8.2
func TestBudgets(t *testing.T) {
	if MaxBudget != 1024 {
		t.Errorf("MaxBudget is %d", MaxBudget)
	}
	x := parse(t, three)
	src := source(t, x, "doc:a#owner@user:ann")
	for budget, want := range map[int]api.Errno{math.MinInt: api.ErrRange, -1: api.ErrRange, 0: api.ErrRange, 1025: api.ErrRange, 1 << 40: api.ErrRange, math.MaxInt: api.ErrRange, 1: api.OK, 2: api.OK, 1023: api.OK, 1024: api.OK} {
		users, e := Expand(x, src, "doc:a", "owner", budget)
		found, f := Check(x, src, api.Tuple{Object: "doc:a", Relation: "owner", User: "user:ann"}, budget)
		if e != want || f != want || found != (want == api.OK) || (len(users) == 1) != found {
			t.Errorf("budget %d: %q, %v, %v, %v", budget, users, e, found, f)
		}
	}
}

// P8.2 and P8.5: the errors that stand ahead of all questions, and their order.
func TestWrongQuestions(t *testing.T) {
	x := parse(t, three)
	src := source(t, x)
	src.failing[place{"doc:a", "owner"}] = 77
	for _, c := range []struct {
		object, relation, user string
		budget                 int
		want, check            api.Errno
	}{
		{"doc", "none", "user", 0, api.ErrRange, api.ErrForm},
		{"doc", "none", "user:Ann", MaxBudget + 1, api.ErrRange, api.ErrName},
		{"doc", "none", "user:ann#member", 0, api.ErrRange, api.ErrName},
		{"doc", "none", "user:ann", 0, api.ErrRange, api.ErrRange},
		{"doc", "none", "group:g#member", 1, api.ErrForm, api.ErrName},
		{"doc", "none", "user:ann", 1, api.ErrForm, api.ErrForm},
		{"", "", "", 1, api.ErrForm, api.ErrForm},
		{"Doc:a", "none", "user:ann", 1, api.ErrName, api.ErrName},
		{"doc:a#viewer", "viewer", "user:ann", 1, api.ErrName, api.ErrName},
		{"doc:a", "none", "user:ann", 1, api.ErrRelation, api.ErrRelation},
		{"doc:a", "", "user:ann", 1, api.ErrRelation, api.ErrRelation},
		{"doc:a", "member", "user:ann", 1, api.ErrRelation, api.ErrRelation},
		{"doc:a", "\xff", "user:ann", 1, api.ErrRelation, api.ErrRelation},
		{"none:a", "viewer", "user:ann", 1, api.ErrRelation, api.ErrRelation},
		{"user:a", "viewer", "user:ann", 1, api.ErrRelation, api.ErrRelation},
		{"doc:a", "none", "none", 1, api.ErrRelation, api.ErrForm},
		{"doc:a", "owner", "user:ann", 1, 77, 77},
		{"doc:a", "owner", "none", 1, 77, api.ErrForm},
		{"doc:a", "owner", "", 1, 77, api.ErrForm},
		{"doc:b", "owner", "user:ann#", 1, api.OK, api.ErrName},
		// The user needn't be one that the schema allows.
		{"doc:b", "owner", "none:x", 1, api.OK, api.OK},
	} {
		if users, e := Expand(x, src, c.object, c.relation, c.budget); len(users) > 0 || e != c.want {
			t.Errorf("Expand(%q, %q, %d): %q, %v, want %v", c.object, c.relation, c.budget, users, e, c.want)
		}
		if found, e := Check(x, src, api.Tuple{Object: c.object, Relation: c.relation, User: c.user}, c.budget); found || e != c.check {
			t.Errorf("Check(%q, %q, %q, %d): %v, %v, want %v", c.object, c.relation, c.user, c.budget, found, e, c.check)
		}
	}
}

// P8.3 and P8.4: the chapter's example, and the simplest questions.
func TestExample(t *testing.T) {
	x := parse(t, three)
	src := source(t, x, "doc:a#viewer@group:g#member", "group:g#member@user:ann", "group:g#member@user:bob", "doc:a#banned@user:bob")
	expands(t, x, src, "doc:a#viewer", 3, "user:ann")
	expands(t, x, src, "group:g#member", 1, "user:ann", "user:bob")
	expands(t, x, src, "group:none#member", 1)
	expands(t, x, src, "doc:a#owner", 1)
	expands(t, x, src, "doc:b#viewer", 2)
	expands(t, x, src, "doc:a#reader", 2)
}

// P8.4: in the order of their bytes, each once; objects of any namespace, which aren't followed.
func TestOrderOfAnswers(t *testing.T) {
	x := parse(t, "namespace user\nnamespace u\nnamespace g\nrelation m: user, u, g, g#m\nrelation all: g = this | m\n")
	src := source(t, x, "g:a#m@user:b", "g:a#m@user:b0", "g:a#m@user:b_", "g:a#m@user:0", "g:a#m@u:z", "g:a#m@g:a", "g:a#m@g:b", "g:a#m@g:b#m", "g:b#m@user:b", "g:b#m@u:a", "g:a#all@g:z", "g:a#all@g:b")
	expands(t, x, src, "g:a#m", 2, "g:a", "g:b", "u:a", "u:z", "user:0", "user:b", "user:b0", "user:b_")
	expands(t, x, src, "g:a#all", 3, "g:a", "g:b", "g:z", "u:a", "u:z", "user:0", "user:b", "user:b0", "user:b_")
}

// signs: a schema in which a, b and c are told by tuples alone, with some more relations.
func signs(t *testing.T, lines ...string) (*schema.Schema, *tuples) {
	t.Helper()
	x := parse(t, "namespace u\nnamespace d\nrelation a: u\nrelation b: u\nrelation c: u\nrelation p: d, u, d#q\nrelation q: u, d\n"+strings.Join(lines, "\n"))
	// u:abc has a, b and c; u:ab has a and b; and so on.
	src := source(t, x)
	for _, id := range []string{"a", "b", "c", "ab", "ac", "bc", "abc"} {
		for _, name := range strings.Split(id, "") {
			src.list = append(src.list, api.Tuple{Object: "d:x", Relation: name, User: "u:" + id})
		}
	}
	return x, src
}

// P8.3
func TestOperators(t *testing.T) {
	for expr, want := range map[string]string{
		"a":         "a ab abc ac",
		"a | b":     "a ab abc ac b bc",
		"a & b":     "ab abc",
		"a - b":     "a ac",
		"b - a":     "b bc",
		"a | b | c": "a ab abc ac b bc c",
		"a & b & c": "abc",
		"a - b - c": "a", "(a - b) - c": "a", "a - (b - c)": "a abc ac", "a - (b & c)": "a ab ac", "a - (b | c)": "a",
		"a | b & c": "a ab abc ac bc", "(a | b) & c": "abc ac bc", "a | b - c": "a ab abc ac b", "(a | b) - c": "a ab b", "a & b - c": "ab", "a - b & c": "ac", "a & (b - c)": "ab", "a - (b - (c - a))": "a ac", "(a - b) | (b - a)": "a ac b bc",
		"a - a": "", "a & a": "a ab abc ac", "a | a": "a ab abc ac", "a - (a - a)": "a ab abc ac", "a - (a - b)": "ab abc",
		"c - this": "ac bc c", "this": "abc", "this - a": "", "this | (a - b)": "a abc ac", "a & this": "abc",
	} {
		x, src := signs(t, "relation r: u = "+expr)
		src.list = append(src.list, api.Tuple{Object: "d:x", Relation: "r", User: "u:abc"})
		var users []string
		for _, id := range strings.Fields(want) {
			users = append(users, "u:"+id)
		}
		if got, e := Expand(x, src, "d:x", "r", 4); !slices.Equal(got, users) || e != api.OK {
			t.Errorf("%s: %q, %v, want %q", expr, got, e, users)
		}
	}
}

// P8.1: which users a via goes on from, and where it leads nowhere.
func TestVias(t *testing.T) {
	x := parse(t, `namespace u
namespace f
relation see: u
namespace d
relation up: d, f, u, d#see, u
relation see: u, d#see = this | up->see
relation low = up->see
relation far = up->low
relation near: d = up
relation tagged = near->see
`)
	src := source(t, x, "d:a#up@d:b", "d:a#up@f:b", "d:a#up@u:ann", "d:a#up@d:c#see", "d:b#see@u:bob", "f:b#see@u:cy", "d:c#see@u:dan", "d:a#see@u:eve")
	// Neither a user without the relation nor a user with one is gone on from.
	expands(t, x, src, "d:a#see", 3, "u:bob", "u:cy", "u:eve")
	expands(t, x, src, "d:a#low", 3, "u:bob", "u:cy")
	// The namespace f has no low: no question.
	expands(t, x, src, "d:a#far", 2)
	src = source(t, x, "d:a#up@d:b", "d:b#up@d:c", "d:c#see@u:ann", "d:c#up@d:d", "d:d#see@u:bob", "d:b#see@d:e#see", "d:e#see@u:cy")
	expands(t, x, src, "d:a#see", 5, "u:ann", "u:bob", "u:cy")
	expands(t, x, src, "d:a#far", 4, "u:ann", "u:bob")
	expands(t, x, src, "d:d#see", 1, "u:bob")
	// A via goes on from what tuples tell alone, not from what follows.
	expands(t, x, src, "d:a#tagged", 1)
}

// P8.3: what asks for itself, on whatever way, has no more than what comes in from elsewhere.
func TestCircles(t *testing.T) {
	x := parse(t, `namespace u
namespace g
relation m: u, g#m
relation all: u, g#all = this & ok | m
relation ok: u
relation r = s
relation s = r
relation self = self
relation both = self & m | both
namespace d
relation up: d
relation no: u, g#m
relation see: u, g#m = this | up->see
relation may: u, g#m = up->may | see - no
`)
	src := source(t, x, "g:a#m@g:a#m", "g:b#m@g:c#m", "g:c#m@g:d#m", "g:d#m@g:b#m", "g:c#m@u:ann", "g:d#m@u:bob", "g:c#m@g:e#m", "g:e#m@u:cy", "g:f#m@g:b#m", "g:f#m@u:dan")
	expands(t, x, src, "g:a#m", 1)
	for _, at := range []string{"g:b#m", "g:c#m", "g:d#m"} {
		expands(t, x, src, at, 4, "u:ann", "u:bob", "u:cy")
	}
	expands(t, x, src, "g:e#m", 1, "u:cy")
	expands(t, x, src, "g:f#m", 5, "u:ann", "u:bob", "u:cy", "u:dan")
	expands(t, x, src, "g:a#r", 2)
	expands(t, x, src, "g:a#self", 1)
	expands(t, x, src, "g:b#both", 6)
	src = source(t, x, "g:a#all@g:b#all", "g:b#all@g:a#all", "g:a#all@u:ann", "g:b#all@u:bob", "g:b#all@u:cy", "g:a#ok@u:ann", "g:a#ok@u:bob", "g:b#ok@u:bob", "g:b#ok@u:cy", "g:b#ok@u:ann", "g:b#m@u:dan", "g:a#ok@u:dan")
	expands(t, x, src, "g:a#all", 6, "u:ann", "u:bob", "u:dan")
	expands(t, x, src, "g:b#all", 6, "u:ann", "u:bob", "u:cy", "u:dan")
	src = source(t, x, "d:a#up@d:b", "d:b#up@d:c", "d:c#up@d:a", "d:a#see@u:ann", "d:b#see@u:bob", "d:c#see@g:g#m", "g:g#m@u:cy", "g:g#m@u:dan", "d:a#no@u:ann", "d:b#no@u:ann", "d:c#no@u:ann", "d:a#no@g:g#m", "d:b#no@u:dan", "d:c#no@u:dan", "d:b#no@u:bob")
	expands(t, x, src, "d:a#see", 4, "u:ann", "u:bob", "u:cy", "u:dan")
	expands(t, x, src, "d:a#may", 10, "u:bob", "u:cy")
	expands(t, x, src, "d:b#may", 10, "u:bob", "u:cy")
}

// P8.3: each question of a circle has its whole answer, wherever the circle is met first.
func TestCirclesFromWithin(t *testing.T) {
	x := parse(t, `namespace u
namespace g
relation m: u, g#m
relation left: g
relation right: g
relation both = left->m & right->m
relation swapped = right->m & left->m
relation none = left->m - right->m
relation one = m - (right->m - left->m)
`)
	circle := []string{"g:p#m@g:q#m", "g:q#m@g:s#m", "g:s#m@g:q#m", "g:q#m@g:p#m", "g:p#m@u:ann", "g:q#m@u:bob", "g:s#m@u:cy", "g:r#m@u:cy"}
	for _, ends := range [][2]string{{"p", "q"}, {"q", "p"}, {"p", "s"}, {"s", "p"}, {"q", "s"}, {"s", "q"}} {
		src := source(t, x, append(circle, "g:r#left@g:"+ends[0], "g:r#right@g:"+ends[1])...)
		expands(t, x, src, "g:r#both", 4, "u:ann", "u:bob", "u:cy")
		expands(t, x, src, "g:r#swapped", 4, "u:ann", "u:bob", "u:cy")
		expands(t, x, src, "g:r#none", 4)
		expands(t, x, src, "g:r#one", 5, "u:cy")
	}
}

// P8.3: what is taken away is known whole, however many takings away lie below one another.
func TestTakingsAway(t *testing.T) {
	x, src := signs(t,
		"relation r0: u = this",
		"relation r1: u = a - r0",
		"relation r2: u = a - r1",
		"relation r3: u = (a | b) - (r2 - r0)",
		"relation r4: u, d#r4 = (this | r3) - (r1 | c)",
		"relation r5 = a - (p->r4 | r4)",
		"relation r6 = r6 | (r4 & (r5 | r6)) | p->r6",
	)
	src.list = append(src.list, api.Tuple{Object: "d:x", Relation: "r0", User: "u:ab"}, api.Tuple{Object: "d:x", Relation: "r4", User: "d:y#r4"}, api.Tuple{Object: "d:y", Relation: "r4", User: "u:z"}, api.Tuple{Object: "d:y", Relation: "r4", User: "u:a"}, api.Tuple{Object: "d:x", Relation: "p", User: "d:y"})
	for relation, want := range map[string][]string{
		"r1": {"u:a", "u:abc", "u:ac"},
		"r2": {"u:ab"},
		"r3": {"u:a", "u:ab", "u:abc", "u:ac", "u:b", "u:bc"},
		"r4": {"u:ab", "u:b", "u:z"},
		"r5": {"u:abc", "u:ac"},
		"r6": nil,
	} {
		users, e := Expand(x, src, "d:x", relation, MaxBudget)
		m := &model{x: x, src: src, budget: MaxBudget}
		if other, _ := m.expand("d:x", relation); !slices.Equal(users, want) || !slices.Equal(other, want) || e != api.OK {
			t.Errorf("%s: %q, %v, the model %q, want %q", relation, users, e, other, want)
		}
	}
}

// P8.3: a question on which others hang in many ways, met first where it is taken in, then where it is taken away.
func TestSharedQuestions(t *testing.T) {
	x, src := signs(t, "relation w = a | b", "relation v = w | (c - n)", "relation n = w", "relation k = v - n | (n & c)")
	expandsTo := func(relation string, ids ...string) {
		t.Helper()
		users, e := Expand(x, src, "d:x", relation, 8)
		for i := range ids {
			ids[i] = "u:" + ids[i]
		}
		if !slices.Equal(users, ids) || e != api.OK {
			t.Errorf("%s: %q, %v, want %q", relation, users, e, ids)
		}
	}
	expandsTo("v", "a", "ab", "abc", "ac", "b", "bc", "c")
	expandsTo("k", "abc", "ac", "bc", "c")
}

// P8.2: one question is counted once, whoever asks for it; what is no question isn't counted.
func TestCountOfQuestions(t *testing.T) {
	x := parse(t, "namespace u\nnamespace g\nrelation m: u, g, g#m, g#n\nrelation n: u = m | n | m & m\nrelation o: u, g#m = this | this\nrelation w = m->m | m->n | m->w\n")
	src := source(t, x, "g:a#m@g:a#m", "g:a#m@g:b#m", "g:b#m@g:a#m", "g:b#m@g:b#m", "g:b#m@u:ann", "g:a#m@u:bob", "g:a#m@g:c", "g:a#o@g:b#m")
	expands(t, x, src, "g:a#m", 2, "g:c", "u:ann", "u:bob")
	expands(t, x, src, "g:a#o", 3, "g:c", "u:ann", "u:bob")
	expands(t, x, src, "g:a#n", 3, "g:c", "u:ann", "u:bob")
	expands(t, x, src, "g:a#w", 4)
	// A source that tells what the schema doesn't allow: no questions either.
	src.list = append(src.list, api.Tuple{Object: "g:b", Relation: "m", User: "u:ann#m"}, api.Tuple{Object: "g:b", Relation: "m", User: "none:x#m"}, api.Tuple{Object: "g:b", Relation: "m", User: "g:b#none"})
	expands(t, x, src, "g:a#m", 2, "g:c", "u:ann", "u:bob")
}

// P8.2: the source's error and ErrBudget: whichever is met first.
func TestErrorsOfTheSource(t *testing.T) {
	x := parse(t, "namespace u\nnamespace g\nrelation m: u, g#m, g#n\nrelation n: u, g#m\nrelation up: g\nrelation left = this | up->m | n\nrelation right = n | up->m | this\nrelation name = n\nrelation taken = n - up->m\nrelation none = n & up->n")
	all := []string{"g:a#m@g:b#m", "g:a#up@g:c", "g:a#up@g:d", "g:b#m@g:e#m", "g:a#n@g:f#m"}
	for _, c := range []struct {
		fails  place
		at     string
		budget int
		want   api.Errno
	}{
		{place{"g:a", "m"}, "g:a#m", 1, 99}, {place{"g:b", "m"}, "g:a#m", 1, api.ErrBudget}, {place{"g:b", "m"}, "g:a#m", 2, 99}, {place{"g:e", "m"}, "g:a#m", 2, api.ErrBudget}, {place{"g:e", "m"}, "g:a#m", 3, 99},
		// Asked at each this and via, though nothing is asked for there; not at a name.
		{place{"g:a", "left"}, "g:a#left", 1, 99}, {place{"g:a", "up"}, "g:a#left", 1, 99}, {place{"g:a", "right"}, "g:a#right", 1, api.ErrBudget},
		{place{"g:a", "up"}, "g:a#right", 1, api.ErrBudget}, {place{"g:a", "up"}, "g:a#right", 2, 99}, {place{"g:a", "right"}, "g:a#right", 2, api.ErrBudget}, {place{"g:a", "right"}, "g:a#right", 3, api.ErrBudget}, {place{"g:a", "right"}, "g:a#right", 4, 99},
		{place{"g:a", "n"}, "g:a#left", 3, api.ErrBudget}, {place{"g:a", "n"}, "g:a#left", 4, 99}, {place{"g:c", "m"}, "g:a#left", 4, 99},
		{place{"g:a", "name"}, "g:a#name", 1, api.ErrBudget}, {place{"g:a", "n"}, "g:a#name", 2, 99}, {place{"g:f", "m"}, "g:a#name", 2, api.ErrBudget}, {place{"g:f", "m"}, "g:a#name", 3, 99},
		{place{"g:a", "up"}, "g:a#taken", 2, 99}, {place{"g:a", "up"}, "g:a#taken", 1, api.ErrBudget}, {place{"g:d", "m"}, "g:a#taken", 5, 99}, {place{"g:d", "n"}, "g:a#none", 4, api.ErrBudget}, {place{"g:d", "n"}, "g:a#none", 5, 99},
		// Question by question as they are listed: what n of g:a asks for stands behind what up leads to.
		{place{"g:c", "m"}, "g:a#taken", 4, api.ErrBudget}, {place{"g:c", "m"}, "g:a#taken", 5, 99},
	} {
		src := source(t, x, all...)
		src.failing[c.fails] = 99
		refused(t, x, src, c.at, c.budget, c.want)
	}
	// Where the source isn't asked its error doesn't count.
	src := source(t, x, all...)
	src.failing = map[place]api.Errno{{"g:a", "name"}: 99, {"g:a", "m"}: 99, {"g:a", "up"}: 99, {"g:c", "m"}: 99, {"g:f", "n"}: 99}
	expands(t, x, src, "g:a#name", 3)
	for _, e := range []api.Errno{api.ErrUnavailable, api.ErrBudget, -1, 1 << 30} {
		src.failing[place{"g:f", "m"}] = e
		refused(t, x, src, "g:a#name", 3, e)
	}
}

// P8.2: as many questions as there may be.
func TestGreatestList(t *testing.T) {
	x := parse(t, three)
	var list []string
	for i := range MaxBudget {
		list = append(list, "group:g"+strconv.Itoa(i)+"#member@group:g"+strconv.Itoa(i+1)+"#member")
	}
	src := source(t, x, append(list[:MaxBudget-1:MaxBudget-1], "group:g1023#member@user:ann")...)
	expands(t, x, src, "group:g0#member", MaxBudget, "user:ann")
	expands(t, x, src, "group:g1#member", MaxBudget-1, "user:ann")
	src = source(t, x, append(list, "group:g1024#member@user:ann")...)
	refused(t, x, src, "group:g0#member", MaxBudget, api.ErrBudget)
	expands(t, x, src, "group:g1#member", MaxBudget, "user:ann")
}

// fast is a source of many places.
type fast map[place][]string

func (s fast) Users(object, relation string) ([]string, api.Errno) {
	return s[place{object, relation}], api.OK
}

// P1 and P8.3: circles on which each user comes from each question to each other one.
func TestGreatCircles(t *testing.T) {
	x := parse(t, "namespace u\nnamespace g\nrelation no: u\nrelation m: u, g#m = (this & this | "+strings.Repeat("m | ", 1500)+"this) - no\n")
	src := fast{}
	const many = MaxBudget / 2
	id := func(i int) string { return "g:" + strconv.Itoa(i) }
	for i := range many {
		users := []string{"u:" + strconv.Itoa(i)}
		if i > 0 {
			users = append(users, id(i-1)+"#m")
		}
		if i < many-1 {
			users = append(users, id(i+1)+"#m")
		}
		slices.Sort(users)
		src[place{id(i), "m"}] = users
		// Nobody keeps the last one out, but it is kept out of all others.
		if i < many-1 {
			src[place{id(i), "no"}] = []string{"u:" + strconv.Itoa(many-1)}
		}
	}
	for _, i := range []int{0, 1, many / 2, many - 1} {
		users, e := Expand(x, src, id(i), "m", MaxBudget)
		if want := many - 1 + i/(many-1); len(users) != want || e != api.OK {
			t.Errorf("%d: %d users, %v, want %d", i, len(users), e, want)
		}
		refused(t, x, src, id(i)+"#m", MaxBudget-1, api.ErrBudget)
	}
}

// wild is a source that tells anything, in one list that it uses again.
type wild struct {
	users []string
	room  []string
}

func (s *wild) Users(object, relation string) ([]string, api.Errno) {
	s.room = append(s.room[:0], s.users...)
	return s.room, api.OK
}

// P1: sources that tell what none should: nothing is promised but that all ends, and that it is the same each time.
func TestWildSources(t *testing.T) {
	x := parse(t, three+"relation odd: user, group#member = (this - owner) | parent->odd\nrelation even: user = this - odd\n")
	y := parse(t, "namespace a\nrelation x: a = this - y\nrelation y: a = this\n")
	for _, users := range [][]string{
		nil, {""}, {"", "", "#", "#x"}, {"\xff", "user", "user:", ":ann", "user:ann#", "a:b#c#d"}, {"user:b", "user:a", "user:b"},
		{"doc:a#even", "doc:b#odd", "doc:a", "doc:b", "user:ann", "doc:a#even"}, {"doc:a#viewer", "doc:b#banned", "doc:a#banned", "user:x"},
		{"a:a#x", "a:b#x", "a:b#y", "a:c", "a:a#y", "a:a", "a:a#z"},
	} {
		for _, at := range []place{{"doc:a", "even"}, {"doc:a", "odd"}, {"doc:a", "viewer"}, {"doc:a", "reader"}, {"a:a", "x"}, {"a:a", "y"}} {
			for _, z := range []*schema.Schema{x, y} {
				for _, budget := range []int{1, 2, 3, MaxBudget} {
					first, e := Expand(z, &wild{users: users}, at.object, at.relation, budget)
					for range 5 {
						if again, f := Expand(z, &wild{users: users}, at.object, at.relation, budget); !slices.Equal(first, again) || e != f {
							t.Fatalf("%q: %q, %v, then %q, %v", users, first, e, again, f)
						}
					}
					Check(z, &wild{users: users}, api.Tuple{Object: at.object, Relation: at.relation, User: "user:ann"}, budget)
				}
			}
		}
	}
}

// P2: what the source tells is neither changed nor kept, and what is answered is new memory.
func TestListsStay(t *testing.T) {
	x := parse(t, three)
	src := fast{
		{"doc:a", "viewer"}:   append(make([]string, 0, 9), "group:g#member", "user:bob", "user:cy"),
		{"group:g", "member"}: {"group:g#member", "user:ann", "user:bob"},
		{"doc:a", "banned"}:   {"user:cy"},
	}
	kept := fast{}
	for at, users := range src {
		kept[at] = slices.Clone(users)
	}
	var answers [][]string
	for range 3 {
		users, e := Expand(x, src, "doc:a", "viewer", 3)
		if !slices.Equal(users, []string{"user:ann", "user:bob"}) || e != api.OK {
			t.Errorf("%q, %v", users, e)
		}
		for _, other := range answers {
			if len(other) > 0 && len(users) > 0 && &other[0] == &users[0] {
				t.Error("two answers share memory")
			}
		}
		answers = append(answers, users)
		clear(users[:cap(users)])
		found, e := Check(x, src, api.Tuple{Object: "doc:a", Relation: "viewer", User: "user:ann"}, 3)
		if !found || e != api.OK {
			t.Errorf("%v, %v", found, e)
		}
	}
	for at, users := range src {
		if whole := users[:cap(users)]; !slices.Equal(users, kept[at]) || slices.ContainsFunc(whole[len(users):], func(s string) bool { return s != "" }) {
			t.Errorf("a list of the source was changed: %q", whole)
		}
	}
}

// P8.1: what a call answers hangs on what the source tells then, not on what it told before.
func TestNothingIsKept(t *testing.T) {
	x := parse(t, three)
	src := source(t, x, "doc:a#viewer@group:g#member", "group:g#member@user:ann")
	expands(t, x, src, "doc:a#viewer", 3, "user:ann")
	src.list = append(src.list, api.Tuple{Object: "doc:a", Relation: "banned", User: "user:ann"})
	expands(t, x, src, "doc:a#viewer", 3)
	src.list = src.list[:1]
	expands(t, x, src, "doc:a#viewer", 3)
}

// P1, and what holds of all answers.
func FuzzNothingPanics(f *testing.F) {
	f.Add(three, "doc:a", "viewer", "user:ann", "group:g#member", 3)
	f.Add("namespace a\nrelation r: a, a#r = this | r->r", "a:a", "r", "a:a#r", "a:b", 5)
	f.Add("namespace a\nrelation r: a, a#s = (this - s) & (r | s)\nrelation s: a", "a:a", "r", "a:a#r", "a:a#s", 1024)
	f.Add("", "", "\xff", "#", ":", -1)
	f.Fuzz(func(t *testing.T, text, object, relation, user, other string, budget int) {
		x, e, _ := schema.Parse(text)
		if e != api.OK {
			return
		}
		src := &wild{users: []string{user, other}}
		users, e := Expand(x, src, object, relation, budget)
		if e != api.OK && len(users) > 0 || !slices.IsSorted(users) || len(slices.Compact(slices.Clone(users))) != len(users) {
			t.Errorf("%q, %v", users, e)
		}
		for _, one := range []string{user, other} {
			found, f := Check(x, src, api.Tuple{Object: object, Relation: relation, User: one}, budget)
			if found != slices.Contains(users, one) || f != e && f != api.ErrForm && f != api.ErrName {
				t.Errorf("Check of %q: %v, %v; Expand: %q, %v", one, found, f, users, e)
			}
		}
	})
}
