package tuple

import (
	"math/rand"
	"reflect"
	"slices"
	"strings"
	"testing"

	"porter/api"
)

// longest: a name that has as many bytes as one may have.
var longest = strings.Repeat("n", api.MaxName)

// names: some that are names, the shortest and the longest among them.
func names() []string {
	return []string{"a", "z", "0", "9", "_", "viewer", "a_0", "__", longest}
}

// noNames: some that are none, and have no sign that would cut them.
func noNames() []string {
	return []string{"", longest + "n", "A", "Z", "a b", " a", "a ", "a-b", "a.b", "é", "a\x00", "\xff", "\n", "`", "{", "/", "a\t"}
}

// P5.1
func TestObject(t *testing.T) {
	for _, space := range names() {
		for _, id := range names() {
			if a, b, e := Object(space + ":" + id); a != space || b != id || e != api.OK {
				t.Errorf("%q and %q: %q, %q, %v", space, id, a, b, e)
			}
		}
	}
}

// P5.1
func TestObjectsThatAreNone(t *testing.T) {
	cases := map[string]api.Errno{
		"": api.ErrForm, "doc": api.ErrForm, "A": api.ErrForm, "doc#a": api.ErrForm, longest + "n": api.ErrForm,
		":": api.ErrName, "doc:": api.ErrName, ":a": api.ErrName, "::": api.ErrName,
		// The first : counts: what follows it is all the id's.
		"doc:a:b": api.ErrName, "a::b": api.ErrName, "doc:a#b": api.ErrName, "doc:a@b": api.ErrName, "doc#b:a": api.ErrName,
	}
	for _, wrong := range noNames() {
		cases[wrong+":a"], cases["a:"+wrong], cases[wrong+":"+wrong] = api.ErrName, api.ErrName, api.ErrName
	}
	for s, want := range cases {
		if a, b, e := Object(s); a != "" || b != "" || e != want {
			t.Errorf("%q: %q, %q, %v, want %v", s, a, b, e, want)
		}
		if a, b, e := User(s); !strings.Contains(s, "#") && (a != "" || b != "" || e != want) {
			t.Errorf("the user %q: %q, %q, %v, want %v", s, a, b, e, want)
		}
	}
}

// P5.1: each byte by itself, and each length.
func TestEachByteOfNames(t *testing.T) {
	for i := range 256 {
		s := string([]byte{byte(i)})
		want := api.ErrName
		if strings.Contains("abcdefghijklmnopqrstuvwxyz0123456789_", s) {
			want = api.OK
		}
		if _, _, e := Object("x:y" + s); e != want {
			t.Errorf("byte %d in an id: %v", i, e)
		}
		if _, _, e := Object(s + ":y"); s != ":" && e != want {
			t.Errorf("byte %d as a namespace: %v", i, e)
		}
		if _, _, e := User("x:y#" + s + "r"); e != want {
			t.Errorf("byte %d in a relation: %v", i, e)
		}
	}
	for size := range 70 {
		want := api.OK
		if size < 1 || size > 32 {
			want = api.ErrName
		}
		name := strings.Repeat("x", size)
		_, _, first := Object(name + ":y")
		_, _, second := Object("y:" + name)
		if first != want || second != want || Check(api.Tuple{Object: "a:b", Relation: name, User: "a:b"}) != want {
			t.Errorf("a name of %d bytes: %v, %v", size, first, second)
		}
	}
}

// P5.2
func TestUser(t *testing.T) {
	for _, name := range names() {
		if a, b, e := User(name + ":" + name); a != name+":"+name || b != "" || e != api.OK {
			t.Errorf("%q: %q, %q, %v", name, a, b, e)
		}
		if a, b, e := User("group:b#" + name); a != "group:b" || b != name || e != api.OK {
			t.Errorf("%q: %q, %q, %v", name, a, b, e)
		}
	}
	cases := map[string]api.Errno{
		"": api.ErrForm, "#": api.ErrForm, "group#member": api.ErrForm, "#member": api.ErrForm, "##": api.ErrForm,
		// The object's error stands ahead of the relation's.
		"group#": api.ErrForm, "Group:b#": api.ErrName, "group:#member": api.ErrName, ":#": api.ErrName,
		"group:b#": api.ErrName, "group:b##": api.ErrName, "group:b#m#": api.ErrName, "group:b#m#m": api.ErrName,
		"group:b#m:x": api.ErrName, "group:b#m@x": api.ErrName, "group#m:b": api.ErrForm, "group:b@c#m": api.ErrName,
	}
	for _, wrong := range noNames() {
		cases["a:b#"+wrong], cases["a:"+wrong+"#r"], cases[wrong+"#r"] = api.ErrName, api.ErrName, api.ErrForm
	}
	for s, want := range cases {
		if a, b, e := User(s); a != "" || b != "" || e != want {
			t.Errorf("%q: %q, %q, %v, want %v", s, a, b, e, want)
		}
	}
}

// wrongTuples: tuples with the error that each has.
func wrongTuples() map[api.Tuple]api.Errno {
	return map[api.Tuple]api.Errno{
		{}:                             api.ErrForm,
		{Object: "a:b"}:                api.ErrName,
		{Object: "a:b", User: "a"}:     api.ErrName,
		{Relation: "r", User: "u:v"}:   api.ErrForm,
		{Object: "a:b", Relation: "r"}: api.ErrForm,
		{Object: "a", Relation: "R", User: "U:v"}:                     api.ErrForm,
		{Object: "A:b", Relation: "r", User: "u"}:                     api.ErrName,
		{Object: "a:b", Relation: "R", User: "u"}:                     api.ErrName,
		{Object: "a:b", Relation: "r", User: "u"}:                     api.ErrForm,
		{Object: "a:b", Relation: "r", User: "u#m"}:                   api.ErrForm,
		{Object: "a:b", Relation: "r", User: "u:V"}:                   api.ErrName,
		{Object: "a:b", Relation: "r", User: "u:v#"}:                  api.ErrName,
		{Object: "a:b", Relation: "r", User: "u:v#m "}:                api.ErrName,
		{Object: "a:b#c", Relation: "r", User: "u:v"}:                 api.ErrName,
		{Object: "a:b", Relation: "r@u:v", User: "u:v"}:               api.ErrName,
		{Object: "a:b", Relation: longest + "n", User: "u:v"}:         api.ErrName,
		{Object: longest + "n:b", Relation: "r", User: "u:v"}:         api.ErrName,
		{Object: "a:b", Relation: "r", User: "u:v#m" + longest + "n"}: api.ErrName,
	}
}

// P5.2
func TestCheck(t *testing.T) {
	right := []api.Tuple{
		{Object: "doc:a", Relation: "viewer", User: "user:ann"},
		{Object: "doc:a", Relation: "viewer", User: "group:b#member"},
		{Object: longest + ":" + longest, Relation: longest, User: longest + ":" + longest + "#" + longest},
	}
	if e := Check(); e != api.OK {
		t.Errorf("of no tuples: %v", e)
	}
	if e := Check(append(right, right...)...); e != api.OK {
		t.Errorf("of right tuples: %v", e)
	}
	wrong := wrongTuples()
	for x, want := range wrong {
		if e := Check(x); e != want {
			t.Errorf("%q: %v, want %v", x, e, want)
		}
		for other := range wrong {
			if e := Check(right[0], right[1], right[2], x, other, right[0]); e != want {
				t.Errorf("%q ahead of %q: %v, want %v", x, other, e, want)
			}
		}
	}
}

// P5.3
func TestParse(t *testing.T) {
	cases := map[string]api.Tuple{
		"doc:a#viewer@user:ann":       {Object: "doc:a", Relation: "viewer", User: "user:ann"},
		"doc:a#viewer@group:b#member": {Object: "doc:a", Relation: "viewer", User: "group:b#member"},
		"_:0#_@9:z#_":                 {Object: "_:0", Relation: "_", User: "9:z#_"},
	}
	for _, name := range names() {
		x := api.Tuple{Object: name + ":" + name, Relation: name, User: name + ":" + name + "#" + name}
		cases[x.Object+"#"+x.Relation+"@"+x.User] = x
	}
	for s, want := range cases {
		if x, e := Parse(s); x != want || e != api.OK {
			t.Errorf("%q: %q, %v, want %q", s, x, e, want)
		}
		if Print(want) != s {
			t.Errorf("Print(%q) = %q", want, Print(want))
		}
	}
}

// P5.3
func TestParseOfWrongTexts(t *testing.T) {
	cases := map[string]api.Errno{
		"": api.ErrForm, "@": api.ErrForm, "#": api.ErrForm, "@#": api.ErrForm, "doc:a": api.ErrForm, "doc:a#viewer": api.ErrForm,
		"doc:a@b": api.ErrForm, "doc:a@user:b#member": api.ErrForm, "doc:a@#viewer": api.ErrForm, "doc:a@r#v@u:x": api.ErrForm,
		// Check's errors, in its order.
		"#@": api.ErrForm, "doc#v@u:x": api.ErrForm, "#v@u:x": api.ErrForm, "Doc:a#v@u": api.ErrName, "doc:a#@": api.ErrName,
		"doc:a#V@u": api.ErrName, "doc:a#v@": api.ErrForm, "doc:a#v@u": api.ErrForm, "doc:a#v@u:": api.ErrName, "doc:a#v@u:x#": api.ErrName,
		"doc:a#v@@u:x": api.ErrName, "doc:a#v@u:x@": api.ErrName, "doc:a#v@u:x@y:z": api.ErrName, "doc:a##v@u:x": api.ErrName,
		"doc:a#v#w@u:x": api.ErrName, "doc:a#v@u:x#m#n": api.ErrName, " doc:a#v@u:x": api.ErrName, "doc:a#v@u:x ": api.ErrName,
		"doc:a#v @u:x": api.ErrName, "doc:a#v@u:x\n": api.ErrName, "doc:a:b#v@u:x": api.ErrName,
		longest + "n:a#v@u:x": api.ErrName, "doc:a#" + longest + "n@u:x": api.ErrName,
	}
	for s, want := range cases {
		if x, e := Parse(s); x != (api.Tuple{}) || e != want {
			t.Errorf("%q: %q, %v, want %v", s, x, e, want)
		}
	}
}

// P5.3: of any tuple.
func TestPrintOfAnyTuple(t *testing.T) {
	for x, want := range map[api.Tuple]string{
		{}: "#@",
		{Object: "a@b", Relation: "#", User: "\x00\xff"}: "a@b##@\x00\xff",
		{User: "u"}:     "#@u",
		{Relation: "r"}: "#r@",
		{Object: "o"}:   "o#@",
	} {
		if got := Print(x); got != want {
			t.Errorf("%q: %q, want %q", x, got, want)
		}
	}
}

// P5.3
func TestCompare(t *testing.T) {
	rising := []api.Tuple{
		{},
		{User: "u"},
		{User: "u\x00"},
		{User: "v"},
		{Relation: "r"},
		{Relation: "r", User: "a"},
		// As printed texts these two would stand the other way round: ! stands ahead of #.
		{Object: "doc:a", Relation: "z", User: "z"},
		{Object: "doc:a!", Relation: "a", User: "a"},
		{Object: "doc:a_", Relation: "a", User: "a"},
		{Object: "doc:b", Relation: "viewer", User: "group:a#member"},
		{Object: "doc:b", Relation: "viewer", User: "group:a#members"},
		{Object: "doc:b", Relation: "viewer", User: "group:b"},
		{Object: "doc:b", Relation: "viewers", User: "group:a"},
		{Object: "doc:bb", Relation: "a", User: "a"},
		// By bytes: what is above 127 stands behind.
		{Object: "\x7f"},
		{Object: "\x80"},
		{Object: "\xff", User: "a"},
		{Object: "\xff\x00"},
	}
	for i, a := range rising {
		for k, b := range rising {
			want := 0
			if i < k {
				want = -1
			} else if i > k {
				want = 1
			}
			if got := Compare(a, b); got != want {
				t.Errorf("%q and %q: %d, want %d", a, b, got, want)
			}
		}
	}
}

// P5.3: sorted by Compare, lists of texts are sorted.
func TestCompareOfManyTuples(t *testing.T) {
	random := rand.New(rand.NewSource(5))
	word := func() string { return strings.Repeat("a", random.Intn(3)) + strings.Repeat("b", random.Intn(2)) }
	var list []api.Tuple
	for range 500 {
		list = append(list, api.Tuple{Object: word(), Relation: word(), User: word()})
	}
	slices.SortFunc(list, Compare)
	for i, b := range list[1:] {
		a := list[i]
		if slices.Compare([]string{a.Object, a.Relation, a.User}, []string{b.Object, b.Relation, b.User}) > 0 {
			t.Fatalf("%q ahead of %q", a, b)
		}
	}
}

// P1, and what holds of any texts.
func FuzzNothingPanics(f *testing.F) {
	for _, s := range []string{"", ":", "#", "@", "doc:a#viewer@group:b#member", "doc:a", "group:b#member", "\xff:\x00#", strings.Repeat("a", 100)} {
		f.Add(s, s)
	}
	f.Fuzz(func(t *testing.T, a, b string) {
		if space, id, e := Object(a); e == api.OK && space+":"+id != a {
			t.Errorf("Object(%q) = %q, %q", a, space, id)
		}
		if object, relation, e := User(a); e == api.OK && object != a && object+"#"+relation != a {
			t.Errorf("User(%q) = %q, %q", a, object, relation)
		}
		x, e := Parse(a)
		if e == api.OK && (Print(x) != a || Check(x) != api.OK) || e != api.OK && x != (api.Tuple{}) {
			t.Errorf("Parse(%q) = %q, %v", a, x, e)
		}
		y := api.Tuple{Object: a, Relation: b, User: a}
		z := api.Tuple{Object: a, Relation: a, User: b}
		if again, e := Parse(Print(y)); Check(y) == api.OK && (again != y || e != api.OK) {
			t.Errorf("Parse(Print(%q)) = %q, %v", y, again, e)
		}
		if Compare(y, z) != -Compare(z, y) || (Compare(y, z) == 0) != (y == z) || Compare(y, y) != 0 {
			t.Errorf("Compare of %q and %q: %d and %d", y, z, Compare(y, z), Compare(z, y))
		}
	})
}

// P2: what is handed in isn't changed, its spare room neither.
func TestArgumentsStay(t *testing.T) {
	list := []api.Tuple{{Object: "doc:a", Relation: "viewer", User: "user:ann"}, {Object: "a"}, {User: "b"}}
	kept := slices.Clone(list)
	for size := range len(list) + 1 {
		Check(list[:size]...)
	}
	if !reflect.DeepEqual(list, kept) {
		t.Errorf("an argument was changed: %q", list)
	}
}
