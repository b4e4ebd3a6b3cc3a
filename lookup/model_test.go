package lookup

import (
	"math/rand"
	"slices"
	"strings"
	"testing"

	"porter/api"
	"porter/check"
	"porter/schema"
	"porter/tuple"
)

// parse: the schema of a text, which must be right.
func parse(t *testing.T, text string) *schema.Schema {
	t.Helper()
	x, e, line := schema.Parse(text)
	if e != api.OK {
		t.Fatalf("%q: %v in line %d", text, e, line)
	}
	return x
}

// tup: the tuple of a text, cut at its signs, whatever stands between them.
func tup(text string) api.Tuple {
	head, user, _ := strings.Cut(text, "@")
	object, relation, _ := strings.Cut(head, "#")
	return api.Tuple{Object: object, Relation: relation, User: user}
}

// tups: the tuples of some words.
func tups(words string) []api.Tuple {
	var list []api.Tuple
	for _, word := range strings.Fields(words) {
		list = append(list, tup(word))
	}
	return list
}

// texts: some tuples as words.
func texts(list []api.Tuple) string {
	var words []string
	for _, y := range list {
		words = append(words, tuple.Print(y))
	}
	return strings.Join(words, " ")
}

// plain is a source of which nothing is asked but that each list is gone through from its beginning.
type plain []api.Tuple

func (s plain) Users(object, relation string) ([]string, api.Errno) {
	var users []string
	for _, y := range s {
		if y.Object == object && y.Relation == relation && !slices.Contains(users, y.User) {
			users = append(users, y.User)
		}
	}
	slices.Sort(users)
	return users, api.OK
}

// allowed: the tuples that a schema allows, each once, in order.
func allowed(x *schema.Schema, tuples []api.Tuple) plain {
	var list plain
	for _, y := range tuples {
		if x.Allows(y) == api.OK && !slices.Contains(list, y) {
			list = append(list, y)
		}
	}
	slices.SortFunc(list, tuple.Compare)
	return list
}

// slowLookup is Lookup of some tuples as P25.2 tells it, but for what is wrong ahead of all objects.
func slowLookup(x *schema.Schema, tuples []api.Tuple, space, relation, user string, budget int) ([]string, api.Errno) {
	src := allowed(x, tuples)
	var list []string
	last := ""
	for _, y := range src { // in the order of their objects
		if y.Object == last || !strings.HasPrefix(y.Object, space+":") {
			continue
		}
		last = y.Object
		has, e := check.Check(x, src, api.Tuple{Object: y.Object, Relation: relation, User: user}, budget)
		if e != api.OK {
			return nil, e
		}
		if has {
			list = append(list, y.Object)
		}
	}
	return list, api.OK
}

// slowNeeds is Needs as P25.3 tells it.
func slowNeeds(x *schema.Schema, tuples []api.Tuple, y api.Tuple, budget int) ([]api.Tuple, api.Errno) {
	all := allowed(x, tuples)
	has, e := check.Check(x, all, y, budget)
	if e != api.OK || !has {
		return nil, e
	}
	var list []api.Tuple
	for i, each := range all {
		rest := append(slices.Clone(all[:i]), all[i+1:]...)
		if has, e := check.Check(x, rest, y, budget); e == api.OK && !has {
			list = append(list, each)
		}
	}
	return list, api.OK
}

// schemas: some with circles and with what takes away.
func schemas(t *testing.T) []*schema.Schema {
	var list []*schema.Schema
	for _, text := range []string{
		three,
		"namespace user\nnamespace doc\nrelation viewer: user, doc#viewer, doc#owner\nrelation owner: user, doc#owner = this & viewer | parent->owner\nrelation parent: doc, user\nrelation banned: user, doc#viewer, doc#owner\nrelation member = viewer & owner - banned",
		"namespace doc\nrelation parent: doc, user\nrelation viewer: doc, group, user, group#member = this - parent | parent->viewer & this\nnamespace group\nrelation member: doc, group#member, doc#viewer\nrelation viewer: user = member | this\nnamespace user\nrelation viewer: user",
	} {
		list = append(list, parse(t, text))
	}
	return list
}

// randomTuple: any, of which a schema allows some.
func randomTuple(random *rand.Rand) api.Tuple {
	one := func(words ...string) string { return words[random.Intn(len(words))] }
	id := func() string { return one("a", "b", "c") }
	y := api.Tuple{Object: one("doc", "doc", "group", "user") + ":" + id(), Relation: one("viewer", "viewer", "member", "owner", "parent", "banned")}
	switch random.Intn(4) {
	case 0:
		y.User = one("doc:", "group:") + id()
	case 1:
		y.User = one("doc:", "group:") + id() + one("#viewer", "#member", "#owner")
	default:
		y.User = "user:" + id()
	}
	return y
}

// randomTuples: so many, some of them alike.
func randomTuples(random *rand.Rand, many int) []api.Tuple {
	var list []api.Tuple
	for range many {
		list = append(list, randomTuple(random))
	}
	return list
}
