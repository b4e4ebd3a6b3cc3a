package lookup

import (
	"math"
	"math/rand"
	"slices"
	"strconv"
	"strings"
	"testing"

	"porter/api"
	"porter/check"
	"porter/schema"
)

// three: a schema of three namespaces.
const three = `namespace user
namespace group
relation member: user, group#member
namespace doc
relation parent: doc, group
relation banned: user, group#member
relation owner: user
relation viewer: user, group#member = (this | owner | parent->viewer) - banned
`

// A Facts is a source.
var _ check.Source = (*Facts)(nil)

// P25.1 to P25.3: the chapter's example.
func TestExample(t *testing.T) {
	x := parse(t, three)
	list := tups("doc:b#viewer@group:g#member group:g#member@user:ann doc:a#viewer@group:g#member group:g#member@user:bob")
	if got, e := Lookup(x, New(x, list...), "doc", "viewer", "user:ann", 9); !slices.Equal(got, []string{"doc:a", "doc:b"}) || e != api.OK {
		t.Errorf("Lookup: %q, %v", got, e)
	}
	got, e := Needs(x, list, tup("doc:a#viewer@user:ann"), 9)
	if texts(got) != "doc:a#viewer@group:g#member group:g#member@user:ann" || e != api.OK {
		t.Errorf("Needs: %q, %v", got, e)
	}
}

// told: are those facts' users of object#relation these?
func told(t *testing.T, f *Facts, at, want string) {
	t.Helper()
	object, relation, _ := strings.Cut(at, "#")
	if users, e := f.Users(object, relation); !slices.Equal(users, strings.Fields(want)) || e != api.OK {
		t.Errorf("Users of %q: %q, %v, want %s", at, users, e, want)
	}
}

// P25.1: what the schema allows, each once, in order.
func TestUsers(t *testing.T) {
	x := parse(t, three)
	f := New(x, tups("doc:a#viewer@user:b doc:a#viewer@user:a doc:a#viewer@group:z#member doc:a#viewer@user:b_ doc:a#viewer@user:b0 doc:a#viewer@user:a doc:a#owner@user:z doc:b#viewer@user:c group:a#member@user:d doc:a#viewer@user:a")...)
	told(t, f, "doc:a#viewer", "group:z#member user:a user:b user:b0 user:b_")
	told(t, f, "doc:a#owner", "user:z")
	told(t, f, "doc:b#viewer", "user:c")
	told(t, f, "group:a#member", "user:d")
	for _, at := range []string{"", "#", "doc:a#", "#viewer", "doc:c#viewer", "doc:b#owner", "doc:a#none", "group:a#viewer", "user:a#viewer", "doc:a#viewer#", "doc#a:viewer", "\xff#\x00"} {
		told(t, f, at, "")
	}
	for range 2 {
		told(t, New(x), "doc:a#viewer", "")
	}
}

// P25.1: tuples that aren't allowed are passed over, whatever stands beside them.
func TestNotAllowed(t *testing.T) {
	x := parse(t, three)
	wrong := tups("doc:a#viewer@doc:b doc:a#viewer@group:g doc:a#viewer@group:g#viewer doc:a#viewer@user:x#member doc:a#owner@group:g#member doc:a#none@user:x none:a#viewer@user:x doc:a#viewer@none:x user:a#viewer@user:x doc:A#viewer@user:x doc#viewer@user:x doc:a#viewer@user doc:a#viewer@user:x# doc:a#viewer@user:X doc:a#@user:x #viewer@user:x doc:a#viewer@ doc:a:b#viewer@user:x doc:a#viewer@user:x:y")
	wrong = append(wrong, api.Tuple{}, api.Tuple{Object: "doc:a#viewer", Relation: "viewer", User: "user:x"}, api.Tuple{Object: "doc:a", Relation: "viewer", User: "user:\xff"})
	for i, y := range wrong {
		f := New(x, y, tup("doc:c#viewer@user:ann"), y)
		told(t, f, "doc:c#viewer", "user:ann")
		if users, e := f.Users(y.Object, y.Relation); len(users) > 0 || e != api.OK {
			t.Errorf("%d, %q: %q, %v", i, y, users, e)
		}
		for _, space := range []string{"doc", "user", "group", "none", ""} {
			if list := f.Objects(space); len(list) > 0 != (space == "doc") || len(list) > 1 {
				t.Errorf("%d, %q: Objects of %q: %q", i, y, space, list)
			}
		}
	}
	if f := New(x, wrong...); len(f.Objects("doc")) > 0 {
		t.Errorf("%q", f.Objects("doc"))
	}
	// Nobody has a relation by what isn't allowed, and nobody needs it.
	list := tups("doc:a#owner@group:g#member group:g#member@user:ann doc:a#viewer@user:bob doc:a#viewer@doc:a")
	if got, e := Lookup(x, New(x, list...), "doc", "owner", "user:ann", 9); len(got) > 0 || e != api.OK {
		t.Errorf("Lookup: %q, %v", got, e)
	}
	if got, e := Needs(x, list, tup("doc:a#owner@user:ann"), 9); len(got) > 0 || e != api.OK {
		t.Errorf("Needs: %q, %v", got, e)
	}
	if got, e := Needs(x, list, tup("doc:a#viewer@user:bob"), 9); texts(got) != "doc:a#viewer@user:bob" || e != api.OK {
		t.Errorf("Needs: %q, %v", got, e)
	}
}

// P25.1: of a namespace, of all relations, each once, in order; users are no objects of tuples.
func TestObjects(t *testing.T) {
	x := parse(t, three+"namespace do\nrelation parent: doc\nnamespace docs\nrelation parent: doc")
	f := New(x, tups("doc:b#viewer@user:a doc:b0#viewer@user:a doc:b_#owner@user:a doc:b#owner@user:a doc:a#parent@doc:z group:g#member@group:h#member docs:x#parent@doc:y do:c#parent@doc:b doc:b#viewer@user:b doc:9#banned@user:a doc:b#viewer@user:a")...)
	for space, want := range map[string]string{
		"doc": "doc:9 doc:a doc:b doc:b0 doc:b_", "group": "group:g", "docs": "docs:x", "do": "do:c", "user": "", "": "", "none": "", "d": "", "doc:": "", "doc:a": "", "Doc": "", "\xff": "", ":": "",
	} {
		for range 2 {
			if list := f.Objects(space); !slices.Equal(list, strings.Fields(want)) {
				t.Errorf("Objects of %q: %q, want %s", space, list, want)
			}
		}
	}
	if list := New(x).Objects("doc"); len(list) > 0 {
		t.Errorf("of no tuples: %q", list)
	}
}

// finds: is Lookup so with this budget, and has it this error with a smaller one?
func finds(t *testing.T, x *schema.Schema, list []api.Tuple, at, user string, questions int, want string) {
	t.Helper()
	space, relation, _ := strings.Cut(at, "#")
	f := New(x, list...)
	for _, budget := range []int{questions, questions + 1, check.MaxBudget} {
		if got, e := Lookup(x, f, space, relation, user, budget); !slices.Equal(got, strings.Fields(want)) || e != api.OK {
			t.Errorf("Lookup of %s for %s, %d: %q, %v, want %s", at, user, budget, got, e, want)
		}
	}
	for budget := 1; budget < questions; budget++ {
		if got, e := Lookup(x, f, space, relation, user, budget); len(got) > 0 || e != api.ErrBudget {
			t.Errorf("Lookup of %s for %s, %d: %q, %v", at, user, budget, got, e)
		}
	}
}

// P25.2: those of the namespace on which the user has it, by whatever way, in order.
func TestLookup(t *testing.T) {
	x := parse(t, three)
	list := tups("doc:d#parent@doc:c doc:c#owner@user:ann doc:a#viewer@group:h#member group:h#member@group:g#member group:g#member@user:ann doc:b#viewer@user:bob doc:e#viewer@user:ann doc:e#banned@group:g#member doc:f#parent@doc:a doc:f#banned@user:bob")
	finds(t, x, list, "doc#viewer", "user:ann", 8, "doc:a doc:c doc:d doc:f")
	finds(t, x, list, "doc#viewer", "user:bob", 8, "doc:b")
	finds(t, x, list, "doc#viewer", "user:none", 8, "")
	finds(t, x, list, "doc#owner", "user:ann", 1, "doc:c")
	finds(t, x, list, "doc#banned", "user:ann", 2, "doc:e")
	finds(t, x, list, "doc#banned", "user:bob", 2, "doc:f")
	finds(t, x, list, "doc#parent", "doc:c", 1, "doc:d")
	finds(t, x, list, "group#member", "user:ann", 2, "group:g group:h")
	finds(t, x, nil, "doc#viewer", "user:ann", 1, "")
	// An object that is told as a user alone isn't looked at.
	finds(t, x, tups("doc:a#parent@doc:b"), "doc#parent", "doc:b", 1, "doc:a")
	finds(t, x, tups("doc:a#viewer@group:g#member"), "group#member", "user:ann", 1, "")
	// Users needn't be such as the schema allows.
	finds(t, x, list, "doc#owner", "none:ann", 1, "")
	finds(t, x, list, "doc#owner", "doc:a", 1, "")
}

// P25.2: the errors, and which one is told where several apply.
func TestLookupRefused(t *testing.T) {
	x := parse(t, three)
	f := New(x, tups("doc:b#viewer@group:g#member doc:a#viewer@user:ann")...)
	for _, c := range []struct {
		space, relation, user string
		budget                int
		want                  api.Errno
	}{
		{"doc", "none", "user:ann", 9, api.ErrRelation}, {"none", "viewer", "user:ann", 9, api.ErrRelation}, {"user", "viewer", "user:ann", 9, api.ErrRelation}, {"", "", "user:ann", 9, api.ErrRelation}, {"doc:a", "viewer", "user:ann", 9, api.ErrRelation}, {"doc", "member", "user:ann", 9, api.ErrRelation}, {"\xff", "\x00", "user:ann", 9, api.ErrRelation},
		{"doc", "none", "user", 0, api.ErrRelation}, {"doc", "none", "user:Ann", 9, api.ErrRelation}, {"none", "viewer", "user:ann", 0, api.ErrRelation}, {"none", "viewer", "", 2000, api.ErrRelation},
		{"doc", "viewer", "", 9, api.ErrForm}, {"doc", "viewer", "user", 9, api.ErrForm}, {"doc", "viewer", "user", 0, api.ErrForm}, {"doc", "viewer", "user:Ann", 9, api.ErrName}, {"doc", "viewer", "user:ann#", 9, api.ErrName}, {"doc", "viewer", "group:g#member", 9, api.ErrName}, {"doc", "viewer", "group:g#member", -1, api.ErrName}, {"doc", "viewer", ":", 1025, api.ErrName},
		{"doc", "viewer", "user:ann", 0, api.ErrRange}, {"doc", "viewer", "user:ann", -1, api.ErrRange}, {"doc", "viewer", "user:ann", 1025, api.ErrRange}, {"doc", "viewer", "user:ann", math.MinInt, api.ErrRange}, {"doc", "viewer", "user:ann", math.MaxInt, api.ErrRange},
		// Even where no object is looked at.
		{"group", "member", "user", 9, api.ErrForm}, {"group", "member", "user:ann", 0, api.ErrRange}, {"group", "member", "user:ann", 1025, api.ErrRange}, {"group", "member", "user:ann", 1, api.OK}, {"group", "member", "user:ann", 1024, api.OK},
		// doc:a asks for 3 questions, doc:b for 4: what was found ahead of the error isn't told.
		{"doc", "viewer", "user:ann", 1, api.ErrBudget}, {"doc", "viewer", "user:ann", 3, api.ErrBudget}, {"doc", "viewer", "user:ann", 4, api.OK}, {"doc", "viewer", "user:ann", 1024, api.OK},
	} {
		want := []string{}
		if c.want == api.OK && c.space == "doc" {
			want = []string{"doc:a"}
		}
		if got, e := Lookup(x, f, c.space, c.relation, c.user, c.budget); !slices.Equal(got, want) || e != c.want {
			t.Errorf("Lookup(%q, %q, %q, %d): %q, %v, want %v", c.space, c.relation, c.user, c.budget, got, e, c.want)
		}
	}
}

// P25.2: by the schema that is handed in, which needn't be that of the facts.
func TestLookupOfAnotherSchema(t *testing.T) {
	x := parse(t, three)
	f := New(x, tups("doc:a#owner@user:ann doc:b#viewer@user:ann group:g#member@user:ann")...)
	y := parse(t, "namespace doc\nrelation owner: doc\nrelation either = owner | viewer\nrelation viewer: doc\nrelation none = owner & viewer")
	if got, e := Lookup(y, f, "doc", "either", "user:ann", 3); !slices.Equal(got, []string{"doc:a", "doc:b"}) || e != api.OK {
		t.Errorf("%q, %v", got, e)
	}
	if got, e := Lookup(y, f, "doc", "none", "user:ann", 3); len(got) > 0 || e != api.OK {
		t.Errorf("%q, %v", got, e)
	}
	if _, e := Lookup(y, f, "group", "member", "user:ann", 3); e != api.ErrRelation {
		t.Errorf("%v", e)
	}
}

// needs: is Needs of some tuples so?
func needs(t *testing.T, x *schema.Schema, list, at string, want string) {
	t.Helper()
	for _, budget := range []int{20, check.MaxBudget} {
		if got, e := Needs(x, tups(list), tup(at), budget); texts(got) != want || e != api.OK {
			t.Errorf("Needs of %s by %s: %q, %v, want %s", at, list, texts(got), e, want)
		}
	}
}

// P25.3
func TestNeeds(t *testing.T) {
	x := parse(t, three)
	needs(t, x, "", "doc:a#viewer@user:ann", "")
	needs(t, x, "doc:a#viewer@user:bob", "doc:a#viewer@user:ann", "")
	needs(t, x, "doc:a#viewer@user:ann", "doc:a#viewer@user:ann", "doc:a#viewer@user:ann")
	needs(t, x, "doc:a#viewer@user:ann doc:a#viewer@user:bob doc:b#viewer@user:ann", "doc:a#viewer@user:ann", "doc:a#viewer@user:ann")
	// Alike ones are one.
	needs(t, x, "doc:a#viewer@user:ann doc:a#viewer@user:ann doc:a#viewer@user:ann", "doc:a#viewer@user:ann", "doc:a#viewer@user:ann")
	// Of two ways neither is needed, but what both have.
	needs(t, x, "doc:a#viewer@user:ann doc:a#owner@user:ann", "doc:a#viewer@user:ann", "")
	needs(t, x, "doc:a#viewer@user:ann doc:a#owner@user:ann", "doc:a#owner@user:ann", "doc:a#owner@user:ann")
	needs(t, x, "doc:a#viewer@group:g#member doc:a#viewer@group:h#member group:g#member@user:ann group:h#member@user:ann", "doc:a#viewer@user:ann", "")
	needs(t, x, "doc:a#viewer@group:g#member doc:a#viewer@group:h#member group:g#member@group:i#member group:h#member@group:i#member group:i#member@user:ann", "doc:a#viewer@user:ann", "group:i#member@user:ann")
	// In order, however long the way is.
	needs(t, x, "doc:z#parent@doc:y doc:y#parent@group:a doc:y#parent@doc:b doc:b#viewer@group:h#member group:h#member@group:b#member group:b#member@user:ann", "doc:z#viewer@user:ann", "doc:b#viewer@group:h#member doc:y#parent@doc:b doc:z#parent@doc:y group:b#member@user:ann group:h#member@group:b#member")
	needs(t, x, "group:a#member@group:b#member group:b#member@group:a#member group:b#member@user:ann", "group:a#member@user:ann", "group:a#member@group:b#member group:b#member@user:ann")
	// What takes away isn't needed, and whom it takes away needs nothing.
	needs(t, x, "doc:a#viewer@user:ann doc:a#banned@user:bob", "doc:a#viewer@user:ann", "doc:a#viewer@user:ann")
	needs(t, x, "doc:a#viewer@user:ann doc:a#banned@user:ann", "doc:a#viewer@user:ann", "")
	needs(t, x, "doc:a#viewer@user:ann doc:a#banned@user:ann", "doc:a#banned@user:ann", "doc:a#banned@user:ann")
	// The tuple itself needn't be one that is allowed.
	needs(t, x, "doc:a#viewer@user:ann", "doc:a#viewer@none:ann", "")
}

// P25.3: a tuple that takes away what takes away is needed; one that both gives and takes isn't.
func TestNeedsOfWhatTakesAway(t *testing.T) {
	x := parse(t, "namespace u\nnamespace d\nrelation a: u\nrelation b: u\nrelation c: u\nrelation r = a - (b - c)\nrelation s = a & b | c\nrelation v = (a | b) - a | c\nrelation w = a - a")
	needs(t, x, "d:x#a@u:ann d:x#b@u:ann d:x#c@u:ann", "d:x#r@u:ann", "d:x#a@u:ann d:x#c@u:ann")
	needs(t, x, "d:x#a@u:ann d:x#b@u:ann", "d:x#r@u:ann", "")
	needs(t, x, "d:x#a@u:ann d:x#c@u:ann", "d:x#r@u:ann", "d:x#a@u:ann")
	needs(t, x, "d:x#a@u:ann d:x#b@u:ann", "d:x#s@u:ann", "d:x#a@u:ann d:x#b@u:ann")
	needs(t, x, "d:x#a@u:ann d:x#b@u:ann d:x#c@u:ann", "d:x#s@u:ann", "")
	needs(t, x, "d:x#b@u:ann d:y#a@u:ann", "d:x#v@u:ann", "d:x#b@u:ann")
	needs(t, x, "d:x#a@u:ann", "d:x#w@u:ann", "")
}

// P25.3: by their texts one by one, where printed ones stand in another order.
func TestOrderOfNeeds(t *testing.T) {
	x := parse(t, "namespace u\nnamespace d\nrelation a: u\nrelation a0: u\nrelation p: d\nrelation r = a & a0 & p->a & p->a0")
	list := "d:x#a0@u:ann d:x#a@u:ann d:x#p@d:x0 d:x0#a@u:ann d:x0#a0@u:ann"
	needs(t, x, list, "d:x#r@u:ann", "d:x#a@u:ann d:x#a0@u:ann d:x#p@d:x0 d:x0#a@u:ann d:x0#a0@u:ann")
}

// P25.3: the errors are those of a check.
func TestNeedsRefused(t *testing.T) {
	x := parse(t, three)
	list := tups("doc:b#viewer@group:g#member group:g#member@user:ann doc:a#viewer@user:ann")
	for _, c := range []struct {
		at     string
		budget int
		want   api.Errno
	}{
		{"doc:a#viewer@user", 9, api.ErrForm}, {"doc:a#viewer@user:Ann", 9, api.ErrName}, {"doc:a#viewer@group:g#member", 9, api.ErrName}, {"doc#none@user", 0, api.ErrForm}, {"@", 0, api.ErrForm},
		{"doc:a#viewer@user:ann", 0, api.ErrRange}, {"doc:a#viewer@user:ann", 1025, api.ErrRange}, {"doc:a#viewer@user:ann", math.MinInt, api.ErrRange}, {"doc#none@user:ann", -1, api.ErrRange},
		{"doc#none@user:ann", 9, api.ErrForm}, {"doc:A#none@user:ann", 9, api.ErrName}, {"#viewer@user:ann", 9, api.ErrForm}, {"doc:a#none@user:ann", 9, api.ErrRelation}, {"none:a#viewer@user:ann", 9, api.ErrRelation}, {"user:a#viewer@user:ann", 9, api.ErrRelation},
		{"doc:b#viewer@user:ann", 3, api.ErrBudget}, {"doc:b#viewer@user:ann", 1, api.ErrBudget}, {"doc:a#viewer@user:ann", 3, api.OK}, {"doc:b#viewer@user:ann", 4, api.OK}, {"doc:b#viewer@user:none", 3, api.ErrBudget},
	} {
		got, e := Needs(x, list, tup(c.at), c.budget)
		if e != c.want || len(got) > 0 != (e == api.OK) {
			t.Errorf("Needs of %s, %d: %q, %v, want %v", c.at, c.budget, texts(got), e, c.want)
		}
	}
}

// P25.1 to P25.3: any tuples of some schemas, against what the promises say word by word.
func TestManyTuples(t *testing.T) {
	random := rand.New(rand.NewSource(25))
	found, needed, refused := 0, 0, 0
	for _, x := range schemas(t) {
		for range 1500 {
			list := randomTuples(random, random.Intn(100))
			f, all := New(x, list...), allowed(x, list)
			for _, y := range append(randomTuples(random, 3), list...) {
				want, _ := all.Users(y.Object, y.Relation)
				told(t, f, y.Object+"#"+y.Relation, strings.Join(want, " "))
			}
			for range 6 {
				y := randomTuple(random)
				y.User, _, _ = strings.Cut(y.User, "#")
				budget := []int{1 + random.Intn(12), check.MaxBudget}[random.Intn(2)]
				space, _, _ := strings.Cut(y.Object, ":")
				want, code := slowLookup(x, list, space, y.Relation, y.User, budget)
				if _, e := x.Find(space, y.Relation); e != api.OK {
					want, code = nil, e
				}
				got, e := Lookup(x, f, space, y.Relation, y.User, budget)
				if !slices.Equal(got, want) || e != code {
					t.Fatalf("Lookup of %s, %d, by %s: %q, %v, want %q, %v", texts([]api.Tuple{y}), budget, texts(list), got, e, want, code)
				}
				wanted, code := slowNeeds(x, list, y, budget)
				those, e := Needs(x, list, y, budget)
				if !slices.Equal(those, wanted) || e != code {
					t.Fatalf("Needs of %s, %d, by %s: %q, %v, want %q, %v", texts([]api.Tuple{y}), budget, texts(list), texts(those), e, texts(wanted), code)
				}
				found, needed = found+len(got), needed+len(those)
				if e == api.ErrBudget {
					refused++
				}
			}
		}
	}
	if found < 1000 || needed < 1000 || refused < 100 {
		t.Errorf("found %d, needed %d, refused %d", found, needed, refused)
	}
}

// P25.2 and P25.3: many tuples, of which a check is told few.
func TestManyMore(t *testing.T) {
	x := parse(t, three)
	list := tups("group:g#member@user:ann")
	var want []string
	for i := range 3000 {
		id := strconv.Itoa(i)
		list = append(list, tup("doc:"+id+"#viewer@group:g#member"), tup("doc:"+id+"#banned@user:bob"))
		want = append(want, "doc:"+id)
	}
	slices.Sort(want)
	if got, e := Lookup(x, New(x, list...), "doc", "viewer", "user:ann", 4); !slices.Equal(got, want) || e != api.OK {
		t.Errorf("%d found, %v", len(got), e)
	}
	if got, e := Needs(x, list, tup("doc:77#viewer@user:ann"), 4); texts(got) != "doc:77#viewer@group:g#member group:g#member@user:ann" || e != api.OK {
		t.Errorf("%q, %v", texts(got), e)
	}
}

// P2: what is handed in isn't changed, its spare room neither, nor kept.
func TestArgumentsStay(t *testing.T) {
	x := parse(t, three)
	list := append(tups("doc:b#viewer@group:g#member group:g#member@user:ann doc:a#owner@user:ann doc:a#owner@user:ann doc:a#none@user:ann"), tups("doc:z#owner@user:z doc:y#owner@user:y")...)[:5]
	kept := slices.Clone(list[:cap(list)])
	f := New(x, list...)
	Needs(x, list, tup("doc:b#viewer@user:ann"), 9)
	Lookup(x, f, "doc", "viewer", "user:ann", 9)
	if !slices.Equal(list[:cap(list)], kept) {
		t.Errorf("the tuples were changed: %q", list[:cap(list)])
	}
	clear(list)
	told(t, f, "doc:b#viewer", "group:g#member")
	if got, e := Lookup(x, f, "doc", "viewer", "user:ann", 9); !slices.Equal(got, []string{"doc:a", "doc:b"}) || e != api.OK {
		t.Errorf("the tuples were kept: %q, %v", got, e)
	}
	if !slices.Equal(x.Spaces(), parse(t, three).Spaces()) {
		t.Error("the schema was changed")
	}
}

// scribbled: is an answer the same as ever, when another one of the same question was written on, its spare room too?
func scribbled[T comparable](t *testing.T, what string, ask func() []T) {
	t.Helper()
	first := ask()
	kept := slices.Clone(first)
	second := ask()
	clear(first[:cap(first)])
	if len(kept) == 0 || !slices.Equal(second, kept) || !slices.Equal(ask(), kept) {
		t.Errorf("%s: %v, %v, want %v", what, second, ask(), kept)
	}
}

// P2: what is answered is new memory.
func TestMemory(t *testing.T) {
	x := parse(t, three)
	list := tups("doc:b#viewer@group:g#member doc:b#viewer@group:h#member doc:b#viewer@user:zoe group:g#member@user:ann doc:a#owner@user:ann")
	f := New(x, list...)
	for range 2 {
		scribbled(t, "Users", func() []string { users, _ := f.Users("doc:b", "viewer"); return users })
		scribbled(t, "Objects", func() []string { return f.Objects("doc") })
		scribbled(t, "Lookup", func() []string { got, _ := Lookup(x, f, "doc", "viewer", "user:ann", 9); return got })
		scribbled(t, "Needs", func() []api.Tuple { got, _ := Needs(x, list, tup("doc:b#viewer@user:ann"), 9); return got })
	}
	// Two of the same tuples go by themselves.
	users, _ := New(x, list...).Users("doc:b", "viewer")
	clear(users)
	told(t, f, "doc:b#viewer", "group:g#member group:h#member user:zoe")
}

// P1, and what holds of any tuples.
func FuzzNothingPanics(f *testing.F) {
	f.Add(three, "doc:a#viewer@group:g#member group:g#member@user:ann doc:a#banned@user:bob", "doc:a#viewer@user:ann", 9)
	f.Add("namespace a\nrelation r: a, a#r = this | r->r", "a:a#r@a:b#r a:b#r@a:a#r a:b#r@a:c", "a:a#r@a:c", 1024)
	f.Add("namespace a\nrelation r: a, a#s = (this - s) & (r | s)\nrelation s: a", "a:a#r@a:b a:a#s@a:b \xff # @", "#@", -1)
	f.Add("", "", "", 0)
	f.Fuzz(func(t *testing.T, text, words, at string, budget int) {
		x, e, _ := schema.Parse(text)
		if e != api.OK || len(words) > 1000 {
			return
		}
		list, y := tups(words), tup(at)
		facts, all := New(x, list...), allowed(x, list)
		for _, each := range append(list, y) {
			want, _ := all.Users(each.Object, each.Relation)
			told(t, facts, each.Object+"#"+each.Relation, strings.Join(want, " "))
		}
		space, _, _ := strings.Cut(y.Object, ":")
		got, e := Lookup(x, facts, space, y.Relation, y.User, budget)
		if want, code := slowLookup(x, list, space, y.Relation, y.User, budget); code == e && !slices.Equal(got, want) || e != api.OK && len(got) > 0 {
			t.Errorf("Lookup of %q by %q: %q, %v, want %q", y, list, got, e, want)
		}
		those, e := Needs(x, list, y, budget)
		if wanted, code := slowNeeds(x, list, y, budget); !slices.Equal(those, wanted) || e != code {
			t.Errorf("Needs of %q by %q: %q, %v, want %q, %v", y, list, texts(those), e, texts(wanted), code)
		}
	})
}
