package store

import (
	"cmp"
	"slices"
	"testing"

	"porter/api"
	"porter/tuple"
)

// model is a store as P7.1 to P7.6 tell it, told once more in a plainer way: a list of rows, each new one behind the others.
type model struct {
	rows      []api.Row
	watermark int64
}

// of: the rows of a tuple.
func (m *model) of(t api.Tuple) []api.Row {
	var list []api.Row
	for _, r := range m.rows {
		if r.Tuple == t {
			list = append(list, r)
		}
	}
	return list
}

func (m *model) check(rev int64, muts []api.Mutation) api.Errno {
	if rev < 1 || rev > 1<<50 {
		return api.ErrRange
	}
	for i, x := range muts {
		if e := tuple.Check(x.Tuple); e != api.OK {
			return e
		}
		for _, ahead := range muts[:i] {
			if ahead.Tuple == x.Tuple {
				return api.ErrTwice
			}
		}
		for _, r := range m.of(x.Tuple) {
			if rev <= r.Since || rev <= r.Until {
				return api.ErrOrder
			}
		}
		if rev <= m.watermark {
			return api.ErrOrder
		}
	}
	return api.OK
}

func (m *model) apply(rev int64, muts []api.Mutation) api.Errno {
	if e := m.check(rev, muts); e != api.OK {
		return e
	}
	for _, x := range muts {
		open := slices.IndexFunc(m.rows, func(r api.Row) bool { return r.Tuple == x.Tuple && r.Until == 0 })
		if x.Delete && open >= 0 {
			m.rows[open].Until = rev
		}
		if !x.Delete && open < 0 {
			m.rows = append(m.rows, api.Row{Tuple: x.Tuple, Since: rev})
		}
	}
	return api.OK
}

// there: the tuples of which a row is there at a revision, in order.
func (m *model) there(rev int64) ([]api.Tuple, api.Errno) {
	if rev < 0 {
		return nil, api.ErrRange
	}
	if rev < m.watermark {
		return nil, api.ErrCollected
	}
	var list []api.Tuple
	for _, r := range m.all() {
		if r.Since <= rev && (r.Until == 0 || r.Until > rev) {
			list = append(list, r.Tuple)
		}
	}
	return list, api.OK
}

// all: the rows in order.
func (m *model) all() []api.Row {
	list := slices.Clone(m.rows)
	slices.SortFunc(list, func(a, b api.Row) int {
		return cmp.Or(cmp.Compare(a.Tuple.Object, b.Tuple.Object), cmp.Compare(a.Tuple.Relation, b.Tuple.Relation), cmp.Compare(a.Tuple.User, b.Tuple.User), cmp.Compare(a.Since, b.Since))
	})
	return list
}

func (m *model) load(rows []api.Row) api.Errno {
	for i, r := range rows {
		if e := tuple.Check(r.Tuple); e != api.OK {
			return e
		}
		if len(m.of(r.Tuple)) > 0 {
			return api.ErrTwice
		}
		if r.Since < 1 || r.Since > 1<<50 || r.Until != 0 && (r.Until <= r.Since || r.Until > 1<<50) {
			return api.ErrRange
		}
		ahead := (&model{rows: rows[:i]}).of(r.Tuple)
		if len(ahead) > 0 {
			if last := ahead[len(ahead)-1].Until; last == 0 || last >= r.Since {
				return api.ErrOrder
			}
		}
	}
	m.rows = append(m.rows, rows...)
	return api.OK
}

func (m *model) collect(rev int64) api.Errno {
	if rev < 0 || rev > 1<<50 {
		return api.ErrRange
	}
	if rev < m.watermark {
		return api.ErrOrder
	}
	m.watermark = rev
	m.rows = slices.DeleteFunc(m.rows, func(r api.Row) bool { return r.Until != 0 && r.Until <= rev })
	return api.OK
}

func (m *model) drop(objects []string) {
	m.rows = slices.DeleteFunc(m.rows, func(r api.Row) bool { return slices.Contains(objects, r.Tuple.Object) })
}

// judge: does the store tell at some revisions what the model does, of these tuples and of all its own?
func (m *model) judge(t *testing.T, what string, s *Store, tuples []api.Tuple, revs ...int64) {
	t.Helper()
	if rows := s.Rows(); s.Watermark() != m.watermark || !slices.Equal(rows, m.all()) {
		t.Fatalf("%s: the watermark %d, the rows %v; want %d, %v", what, s.Watermark(), rows, m.watermark, m.all())
	}
	for _, r := range m.rows {
		tuples = append(tuples[:len(tuples):len(tuples)], r.Tuple)
	}
	for _, rev := range revs {
		there, want := m.there(rev)
		for _, x := range tuples {
			var users []string
			var of []api.Tuple
			for _, y := range there {
				if y.Object == x.Object && y.Relation == x.Relation {
					users = append(users, y.User)
				}
				if y.User == x.User {
					of = append(of, y)
				}
			}
			if has, e := s.Has(x, rev); has != slices.Contains(there, x) || e != want {
				t.Fatalf("%s: Has(%v, %d): %v, %v, want %v, %v", what, x, rev, has, e, !has, want)
			}
			if list, e := s.Users(x.Object, x.Relation, rev); !slices.Equal(list, users) || e != want {
				t.Fatalf("%s: Users(%q, %q, %d): %q, %v, want %q, %v", what, x.Object, x.Relation, rev, list, e, users, want)
			}
			if list, e := s.Of(x.User, rev); !slices.Equal(list, of) || e != want {
				t.Fatalf("%s: Of(%q, %d): %v, %v, want %v, %v", what, x.User, rev, list, e, of, want)
			}
		}
	}
}
