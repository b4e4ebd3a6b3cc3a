package watch

import (
	"math"
	"math/rand"
	"slices"
	"testing"

	"porter/api"
	"porter/store"
	"porter/tuple"
)

// known: the tuples of some rows, some changes and some lists, in order, each once.
func known(rows []api.Row, list []Change, tuples ...[]api.Tuple) []api.Tuple {
	all := slices.Concat(tuples...)
	for _, r := range rows {
		all = append(all, r.Tuple)
	}
	for _, c := range list {
		all = append(all, c.Tuple)
	}
	slices.SortFunc(all, tuple.Compare)
	return slices.Compact(all)
}

// slowChanges is Changes as P22.1 tells it: revision by revision, tuple by tuple, row by row.
func slowChanges(rows []api.Row, from, to int64) []Change {
	var revs []int64
	for _, r := range rows {
		revs = append(revs, r.Since, r.Until)
	}
	slices.Sort(revs)
	var list []Change
	for _, rev := range slices.Compact(revs) {
		if rev <= from || rev > to {
			continue
		}
		for _, x := range known(rows, nil) {
			for _, r := range rows {
				if r.Tuple != x || r.Until != 0 && r.Until <= r.Since {
					continue
				}
				if r.Since == rev {
					list = append(list, Change{rev, api.Mutation{Tuple: x}})
				}
				if r.Until == rev && r.Until != 0 {
					list = append(list, Change{rev, api.Mutation{Delete: true, Tuple: x}})
				}
			}
		}
	}
	return list
}

// slowAt is At as P22.2 tells it, tuple by tuple.
func slowAt(rows []api.Row, rev int64) []api.Tuple {
	return slices.DeleteFunc(known(rows, nil), func(x api.Tuple) bool {
		return !slices.ContainsFunc(rows, func(r api.Row) bool {
			return r.Tuple == x && r.Since <= rev && (r.Until == 0 || r.Until > rev)
		})
	})
}

// slowPlay is Play as P22.3 tells it: the last change of a tuple says whether it is there.
func slowPlay(tuples []api.Tuple, list []Change) []api.Tuple {
	return slices.DeleteFunc(known(nil, list, tuples), func(x api.Tuple) bool {
		there := slices.Contains(tuples, x)
		for _, c := range list {
			if c.Tuple == x {
				there = !c.Delete
			}
		}
		return !there
	})
}

// slowNet is Net as P22.4 tells it, tuple by tuple.
func slowNet(from, to []api.Tuple) []api.Mutation {
	var list []api.Mutation
	for _, x := range known(nil, nil, from, to) {
		if was, is := slices.Contains(from, x), slices.Contains(to, x); was != is {
			list = append(list, api.Mutation{Delete: was, Tuple: x})
		}
	}
	return list
}

// slowRows is Rows as P22.6 tells it; a row is put in behind those that don't stand behind it.
func slowRows(list []Change) []api.Row {
	var made []api.Row
	for _, c := range list {
		open := slices.IndexFunc(made, func(r api.Row) bool { return r.Tuple == c.Tuple && r.Until == 0 })
		if c.Delete && open >= 0 {
			made[open].Until = c.Rev
		}
		if !c.Delete && open < 0 {
			made = append(made, api.Row{Tuple: c.Tuple, Since: c.Rev})
		}
	}
	var rows []api.Row
	for _, r := range made {
		at := slices.IndexFunc(rows, func(other api.Row) bool {
			order := tuple.Compare(other.Tuple, r.Tuple)
			return order > 0 || order == 0 && other.Since > r.Since
		})
		if at < 0 {
			at = len(rows)
		}
		rows = slices.Insert(rows, at, r)
	}
	return rows
}

// maker makes raw things.
type maker struct{ *rand.Rand }

// rev: a revision, mostly a small one.
func (m maker) rev() int64 {
	switch m.Intn(40) {
	case 0:
		return math.MinInt64
	case 1:
		return math.MaxInt64
	case 2, 3, 4:
		return 0
	}
	return int64(m.Intn(12) - 3)
}

// tup: a tuple, not always a right one.
func (m maker) tup() api.Tuple {
	words := []string{"a", "b", "", "a!"}
	return api.Tuple{Object: words[m.Intn(4)], Relation: words[m.Intn(2)], User: words[m.Intn(3)]}
}

func (m maker) tuples() []api.Tuple {
	list := make([]api.Tuple, m.Intn(20))
	for i := range list {
		list[i] = m.tup()
	}
	return list
}

func (m maker) rows() []api.Row {
	list := make([]api.Row, m.Intn(30))
	for i := range list {
		list[i] = api.Row{Tuple: m.tup(), Since: m.rev(), Until: m.rev()}
	}
	return list
}

func (m maker) changes() []Change {
	list := make([]Change, m.Intn(60))
	for i := range list {
		list[i] = Change{m.rev(), api.Mutation{Delete: m.Intn(2) == 0, Tuple: m.tup()}}
	}
	return list
}

// P22.1 to P22.6: raw rows, tuples and changes, against what the promises say word by word.
func TestAnyThings(t *testing.T) {
	m := maker{rand.New(rand.NewSource(22))}
	for range 4000 {
		rows, list, a, b := m.rows(), m.changes(), m.tuples(), m.tuples()
		from, to := m.rev(), m.rev()
		if got, want := Changes(rows, from, to), slowChanges(rows, from, to); !slices.Equal(got, want) {
			t.Fatalf("Changes(%v, %d, %d): %v, want %v", rows, from, to, got, want)
		}
		if got, want := At(rows, from), slowAt(rows, from); !slices.Equal(got, want) {
			t.Fatalf("At(%v, %d): %v, want %v", rows, from, got, want)
		}
		if got, want := Play(a, list...), slowPlay(a, list); !slices.Equal(got, want) {
			t.Fatalf("Play(%v, %v): %v, want %v", a, list, got, want)
		}
		if got, want := Net(a, b), slowNet(a, b); !slices.Equal(got, want) {
			t.Fatalf("Net(%v, %v): %v, want %v", a, b, got, want)
		}
		if got, want := Rows(list...), slowRows(list); !slices.Equal(got, want) {
			t.Fatalf("Rows(%v): %v, want %v", list, got, want)
		}
		back := Back(list)
		for i, c := range list {
			c.Delete = !c.Delete
			if len(back) != len(list) || back[len(list)-1-i] != c {
				t.Fatalf("Back(%v): %v", list, back)
			}
		}
	}
}

// P22.1 to P22.6: of a store's rows the changes lead from each revision to each later one, and back; and they make the rows.
func TestRowsOfStores(t *testing.T) {
	m := maker{rand.New(rand.NewSource(227))}
	for range 60 {
		s := store.New()
		for rev := int64(1); rev <= 12; rev++ {
			var muts []api.Mutation
			for _, user := range []string{"user:ann", "user:bob", "user:cid"} {
				if m.Intn(2) == 0 {
					muts = append(muts, api.Mutation{Delete: m.Intn(2) == 0, Tuple: api.Tuple{Object: "doc:a", Relation: "viewer", User: user}})
				}
			}
			if e := s.Apply(rev, muts...); e != api.OK {
				t.Fatal(e)
			}
		}
		rows := s.Rows()
		if again := Rows(Changes(rows, 0, 12)...); !slices.Equal(again, rows) {
			t.Fatalf("%v are made again: %v", rows, again)
		}
		for from := range int64(13) {
			for to := from; to <= 12; to++ {
				judgeBetween(t, s, from, to)
			}
		}
	}
}

// judgeBetween: do the changes of a store's rows lead from a revision to a later one, and back?
func judgeBetween(t *testing.T, s *store.Store, from, to int64) {
	t.Helper()
	rows := s.Rows()
	was, is := At(rows, from), At(rows, to)
	var users []string
	for _, x := range is {
		users = append(users, x.User)
	}
	if want, _ := s.Users("doc:a", "viewer", to); !slices.Equal(users, want) {
		t.Fatalf("%v at %d: %v, want %v", rows, to, users, want)
	}
	list := Changes(rows, from, to)
	if got := Play(was, list...); !slices.Equal(got, is) {
		t.Fatalf("%v from %d to %d: %v, want %v", rows, from, to, got, is)
	}
	if got := Play(is, Back(list)...); !slices.Equal(got, was) {
		t.Fatalf("%v back from %d to %d: %v, want %v", rows, to, from, got, was)
	}
	var net []Change
	for _, x := range Net(was, is) {
		net = append(net, Change{Mutation: x})
	}
	if got := Play(was, net...); !slices.Equal(got, is) || len(net) > len(list) {
		t.Fatalf("%v from %d to %d at once: %v, want %v", rows, from, to, got, is)
	}
}

// P1: what begins with any texts and numbers ends, and says what the promises do.
func FuzzNothingPanics(f *testing.F) {
	f.Add("doc:a", "viewer", "user:ann", int64(3), int64(5), int64(0), true)
	f.Add("", "", "", int64(0), int64(0), int64(-1), false)
	f.Add("\xff", "\x00", "@", int64(math.MinInt64), int64(math.MaxInt64), int64(math.MaxInt64), true)
	f.Add("a", "a", "a", int64(api.MaxRev), int64(math.MinInt64), int64(math.MinInt64), false)
	f.Fuzz(func(t *testing.T, object, relation, user string, since, until, rev int64, gone bool) {
		x, y := api.Tuple{Object: object, Relation: relation, User: user}, api.Tuple{Object: user, Relation: object, User: relation}
		rows := []api.Row{{Tuple: x, Since: since, Until: until}, {Tuple: y, Since: until, Until: rev}, {Tuple: x, Since: rev, Until: since}, {Tuple: y, Since: since}}
		list := []Change{{since, api.Mutation{Tuple: x}}, {until, api.Mutation{Delete: gone, Tuple: y}}, {rev, api.Mutation{Delete: !gone, Tuple: x}}, {until, api.Mutation{Delete: true, Tuple: y}}}
		if got := Changes(rows, rev, until); !slices.Equal(got, slowChanges(rows, rev, until)) {
			t.Errorf("Changes(%v, %d, %d): %v", rows, rev, until, got)
		}
		if got := At(rows, rev); !slices.Equal(got, slowAt(rows, rev)) {
			t.Errorf("At(%v, %d): %v", rows, rev, got)
		}
		tuples := []api.Tuple{y, x, y}
		if got := Play(tuples, list...); !slices.Equal(got, slowPlay(tuples, list)) {
			t.Errorf("Play(%v, %v): %v", tuples, list, got)
		}
		if got := Net(tuples[:1], tuples[1:2]); !slices.Equal(got, slowNet(tuples[:1], tuples[1:2])) {
			t.Errorf("Net of %v: %v", tuples, got)
		}
		if got := Rows(list...); !slices.Equal(got, slowRows(list)) {
			t.Errorf("Rows(%v): %v", list, got)
		}
		if got := Back(Back(list)); !slices.Equal(got, list) {
			t.Errorf("Back of Back(%v): %v", list, got)
		}
	})
}
