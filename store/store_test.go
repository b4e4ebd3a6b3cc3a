package store

import (
	"math"
	"math/rand"
	"slices"
	"strconv"
	"testing"

	"porter/api"
	"porter/tuple"
)

const maxRev = 1 << 50

// tup: the tuple of a text.
func tup(s string) api.Tuple {
	x, e := tuple.Parse(s)
	if e != api.OK {
		panic(s)
	}
	return x
}

// muts: mutations of texts, each with + or - ahead.
func muts(texts ...string) []api.Mutation {
	var list []api.Mutation
	for _, s := range texts {
		list = append(list, api.Mutation{Delete: s[0] == '-', Tuple: tup(s[1:])})
	}
	return list
}

// row: a row of a text.
func row(s string, since, until int64) api.Row {
	return api.Row{Tuple: tup(s), Since: since, Until: until}
}

// apply: mutations of texts, which must be right.
func apply(t *testing.T, s *Store, rev int64, texts ...string) {
	t.Helper()
	if e := s.Apply(rev, muts(texts...)...); e != api.OK {
		t.Fatalf("Apply(%d, %q): %v", rev, texts, e)
	}
}

// loaded: a store that has some rows, and collected up to a revision.
func loaded(t *testing.T, watermark int64, rows ...api.Row) *Store {
	t.Helper()
	s := New()
	if e := s.Load(rows...); e != api.OK {
		t.Fatalf("Load(%v): %v", rows, e)
	}
	if e := s.Collect(watermark); e != api.OK {
		t.Fatalf("Collect(%d): %v", watermark, e)
	}
	return s
}

// has: are these, and no others, a store's rows?
func has(t *testing.T, what string, s *Store, want ...api.Row) {
	t.Helper()
	if rows := s.Rows(); !slices.Equal(rows, want) {
		t.Fatalf("%s: the rows %v, want %v", what, rows, want)
	}
}

const (
	ann = "doc:a#viewer@user:ann"
	bob = "doc:a#viewer@user:bob"
	cat = "doc:a#viewer@user:cat"
)

// P7.1
func TestNew(t *testing.T) {
	s := New()
	(&model{}).judge(t, "new", s, []api.Tuple{{}, tup(ann)}, math.MinInt64, -1, 0, 1, maxRev, math.MaxInt64)
	apply(t, s, 1, "+"+ann)
	(&model{}).judge(t, "another", New(), []api.Tuple{tup(ann)}, 0, 1, 2)
}

// P7.1: by the parts of the tuples, not by their texts: a sign may stand behind a byte of a name, or ahead of it.
func TestOrderOfRows(t *testing.T) {
	texts := []string{
		"a0:a#a@a:a", "a:b#c@d:e", "a:b#c@d:e#f", "a:b#c@d:e1", "a:b#c@d:e_", "a:b#c0@a:a", "a:b#c_@a:a", "a:b0#a@a:a", "a:b_#a@a:a", "a_:a#a@a:a", "b:a#a@a:a",
	}
	for i := range texts {
		s := New()
		var want []api.Row
		for k := range texts {
			apply(t, s, 1, "+"+texts[(i+k*3)%len(texts)])
		}
		apply(t, s, 7, "-"+texts[i])
		apply(t, s, 9, "+"+texts[i])
		apply(t, s, 10, "-"+texts[i])
		apply(t, s, 12, "+"+texts[i])
		for k, text := range texts {
			if k == i {
				want = append(want, row(text, 1, 7), row(text, 9, 10), row(text, 12, 0))
			} else {
				want = append(want, row(text, 1, 0))
			}
		}
		has(t, "many", s, want...)
	}
}

// P7.2
func TestRevisionsOfMutations(t *testing.T) {
	for rev, want := range map[int64]api.Errno{
		math.MinInt64: api.ErrRange, -1: api.ErrRange, 0: api.ErrRange, maxRev + 1: api.ErrRange, math.MaxInt64: api.ErrRange,
		1: api.OK, 2: api.OK, 1 << 32: api.OK, maxRev - 1: api.OK, maxRev: api.OK,
	} {
		s := New()
		if e := s.Check(rev); e != want {
			t.Errorf("Check(%d): %v, want %v", rev, e, want)
		}
		if e := s.Check(rev, muts("+"+ann, "-"+bob)...); e != want {
			t.Errorf("Check(%d) of two: %v, want %v", rev, e, want)
		}
		has(t, "checked", s)
		if e := s.Apply(rev); e != want {
			t.Errorf("Apply(%d): %v, want %v", rev, e, want)
		}
		if e := s.Apply(rev, muts("+"+ann, "-"+bob)...); e != want {
			t.Errorf("Apply(%d) of two: %v, want %v", rev, e, want)
		}
		if want == api.OK {
			has(t, "applied", s, row(ann, rev, 0))
		} else {
			has(t, "refused", s)
			// The revision's error stands ahead of a mutation's.
			if e := s.Check(rev, api.Mutation{}); e != api.ErrRange {
				t.Errorf("Check(%d) of a wrong one: %v", rev, e)
			}
		}
	}
}

// P7.2: the first mutation that isn't right, and of one the first of its errors.
func TestCheck(t *testing.T) {
	s := loaded(t, 6, row(ann, 3, 8), row(ann, 9, 0), row(bob, 3, 12), row("doc:b#viewer@user:ann", 2, 0))
	form := api.Mutation{Tuple: api.Tuple{Object: "doc", Relation: "viewer", User: "user:ann"}}
	name := api.Mutation{Tuple: api.Tuple{Object: "doc:a", Relation: "viewer", User: "user:ann#"}}
	late, over, gone, fresh := muts("-" + ann)[0], muts("+" + bob)[0], muts("+doc:b#viewer@user:ann")[0], muts("+" + cat)[0]
	for _, c := range []struct {
		rev  int64
		want api.Errno
		muts []api.Mutation
	}{
		{1, api.OK, nil}, {6, api.OK, nil}, {maxRev, api.OK, nil},
		// Above every Since and Until of the tuple's rows.
		{8, api.ErrOrder, []api.Mutation{late}}, {9, api.ErrOrder, []api.Mutation{late}}, {10, api.OK, []api.Mutation{late}},
		{3, api.ErrOrder, []api.Mutation{over}}, {11, api.ErrOrder, []api.Mutation{over}}, {12, api.ErrOrder, []api.Mutation{over}}, {13, api.OK, []api.Mutation{over}},
		// Above the watermark.
		{1, api.ErrOrder, []api.Mutation{fresh}}, {6, api.ErrOrder, []api.Mutation{fresh}}, {7, api.OK, []api.Mutation{fresh}},
		{2, api.ErrOrder, []api.Mutation{gone}}, {6, api.ErrOrder, []api.Mutation{gone}}, {7, api.OK, []api.Mutation{gone}},
		// A tuple's own errors, and their places.
		{20, api.ErrForm, []api.Mutation{form}}, {20, api.ErrName, []api.Mutation{name}},
		{20, api.ErrForm, []api.Mutation{form, name}}, {20, api.ErrName, []api.Mutation{fresh, name, form}},
		{20, api.ErrForm, []api.Mutation{form, form}}, {20, api.ErrName, []api.Mutation{late, over, fresh, name, late}},
		{20, api.OK, []api.Mutation{late, over, fresh, gone}},
		// Two of one tuple, whatever they do.
		{20, api.ErrTwice, []api.Mutation{fresh, fresh}}, {20, api.ErrTwice, []api.Mutation{late, fresh, {Tuple: late.Tuple}}},
		{20, api.ErrTwice, []api.Mutation{fresh, late, over, late, form}}, {20, api.ErrForm, []api.Mutation{late, form, late}},
		// ErrTwice of one stands ahead of its ErrOrder, but behind the ErrOrder of the one ahead of it.
		{7, api.ErrTwice, []api.Mutation{fresh, fresh, late}}, {7, api.ErrOrder, []api.Mutation{late, late}}, {7, api.ErrOrder, []api.Mutation{fresh, late, fresh}},
		{7, api.ErrForm, []api.Mutation{fresh, form, late}}, {7, api.ErrOrder, []api.Mutation{late, form}}, {6, api.ErrOrder, []api.Mutation{fresh, form}}, {6, api.ErrForm, []api.Mutation{form, fresh}},
	} {
		before := s.Rows()
		if e := s.Check(c.rev, c.muts...); e != c.want {
			t.Errorf("Check(%d, %v): %v, want %v", c.rev, c.muts, e, c.want)
		}
		has(t, "checked", s, before...)
		other := loaded(t, 6, before...)
		if e := other.Apply(c.rev, c.muts...); e != c.want {
			t.Errorf("Apply(%d, %v): %v, want %v", c.rev, c.muts, e, c.want)
		}
		if c.want != api.OK {
			has(t, "refused", other, before...)
		}
	}
}

// P7.2, and the chapter's example.
func TestApply(t *testing.T) {
	s := New()
	apply(t, s, 3, "+"+ann)
	has(t, "put", s, row(ann, 3, 0))
	apply(t, s, 5, "-"+ann)
	has(t, "taken away", s, row(ann, 3, 5))
	for rev, want := range map[int64]bool{0: false, 2: false, 3: true, 4: true, 5: false, 6: false, math.MaxInt64: false} {
		if there, e := s.Has(tup(ann), rev); there != want || e != api.OK {
			t.Errorf("Has at %d: %v, %v", rev, there, e)
		}
	}
	apply(t, s, 6, "+"+ann)
	has(t, "put again", s, row(ann, 3, 5), row(ann, 6, 0))
	// Put while it is there: nothing, also for what may come next.
	apply(t, s, 9, "+"+ann)
	has(t, "put twice", s, row(ann, 3, 5), row(ann, 6, 0))
	apply(t, s, 8, "-"+ann)
	has(t, "taken away again", s, row(ann, 3, 5), row(ann, 6, 8))
	// Taken away while it isn't there: nothing.
	apply(t, s, 20, "-"+ann, "-"+bob)
	has(t, "taken away twice", s, row(ann, 3, 5), row(ann, 6, 8))
	apply(t, s, 9, "+"+ann, "+"+bob)
	has(t, "put at last", s, row(ann, 3, 5), row(ann, 6, 8), row(ann, 9, 0), row(bob, 9, 0))
	apply(t, s, 10, "-"+bob, "+"+cat, "-"+ann)
	has(t, "all at once", s, row(ann, 3, 5), row(ann, 6, 8), row(ann, 9, 10), row(bob, 9, 10), row(cat, 10, 0))
}

// P7.3
func TestReads(t *testing.T) {
	rows := []api.Row{
		row("doc:a#owner@user:ann", 1, 0),
		row(ann, 3, 5), row(ann, 6, 9), row(ann, maxRev, 0), row(bob, 4, 7), row("doc:a#viewer@group:g#member", 2, 0), row("doc:a#viewer@user:ann#x", 5, 6), row("doc:a#viewer@user:ann_", 5, 6),
		row("doc:a_#viewer@user:ann", 4, 6), row("doc:a0#viewer@user:ann", 3, 0), row("cod:a#viewer@user:ann", 2, 4),
	}
	revs := []int64{math.MinInt64, -1, 0, 1, 2, 3, 4, 5, 6, 7, 8, 9, 10, maxRev - 1, maxRev, maxRev + 1, math.MaxInt64}
	others := []api.Tuple{{}, {Object: "doc:a"}, {Object: "doc:a", Relation: "viewer"}, {Object: "doc:a#viewer", User: "user"}, {Relation: "viewer", User: "ann"}, tup("doc:a#owner@group:g#member"), tup("user:ann#viewer@doc:a"), {Object: "\xff", Relation: "\x00", User: "#"}}
	for _, watermark := range []int64{0, 1, 4, 6, maxRev} {
		s := loaded(t, watermark, rows...)
		m := &model{rows: slices.Clone(rows)}
		m.collect(watermark)
		m.judge(t, "loaded", s, others, revs...)
	}
	s := loaded(t, 0, rows...)
	if list, e := s.Users("doc:a", "viewer", 5); !slices.Equal(list, []string{"group:g#member", "user:ann#x", "user:ann_", "user:bob"}) || e != api.OK {
		t.Errorf("Users: %q, %v", list, e)
	}
	if list, e := s.Of("user:ann", 4); !slices.Equal(list, []api.Tuple{tup("doc:a#owner@user:ann"), tup(ann), tup("doc:a0#viewer@user:ann"), tup("doc:a_#viewer@user:ann")}) || e != api.OK {
		t.Errorf("Of: %v, %v", list, e)
	}
}

// P7.3: ErrRange stands ahead of ErrCollected.
func TestReadsBelowTheWatermark(t *testing.T) {
	s := loaded(t, 5, row(ann, 1, 0))
	for rev, want := range map[int64]api.Errno{math.MinInt64: api.ErrRange, -1: api.ErrRange, 0: api.ErrCollected, 1: api.ErrCollected, 4: api.ErrCollected, 5: api.OK, 6: api.OK, math.MaxInt64: api.OK} {
		for _, x := range []api.Tuple{tup(ann), {}} {
			there, e := s.Has(x, rev)
			users, f := s.Users(x.Object, x.Relation, rev)
			of, g := s.Of(x.User, rev)
			if e != want || f != want || g != want {
				t.Errorf("at %d: %v, %v, %v, want %v", rev, e, f, g, want)
			}
			if full := want == api.OK && x == tup(ann); there != full || len(users) > 0 != full || len(of) > 0 != full {
				t.Errorf("at %d: %v, %v, %v", rev, there, users, of)
			}
		}
	}
}

// P7.4
func TestLoad(t *testing.T) {
	wrong := api.Row{Tuple: api.Tuple{Object: "doc:a", Relation: "viewer", User: "user:"}}
	old := "doc:o#viewer@user:ann"
	for _, c := range []struct {
		want api.Errno
		rows []api.Row
	}{
		{api.OK, nil},
		{api.OK, []api.Row{row(ann, 1, 0)}}, {api.OK, []api.Row{row(ann, 1, 2)}}, {api.OK, []api.Row{row(ann, maxRev, 0)}}, {api.OK, []api.Row{row(ann, maxRev-1, maxRev)}}, {api.OK, []api.Row{row(ann, 1, maxRev)}},
		{api.OK, []api.Row{row(bob, 9, 0), row(ann, 3, 0), row(cat, 1, 2)}},
		// The tuple's own error comes first.
		{api.ErrForm, []api.Row{{}}}, {api.ErrName, []api.Row{wrong}}, {api.ErrForm, []api.Row{{}, wrong}}, {api.ErrName, []api.Row{row(ann, 1, 0), wrong, {}}},
		// What the store has a row of, ended or not, whatever this one is.
		{api.ErrTwice, []api.Row{row(old, 30, 0)}}, {api.ErrTwice, []api.Row{row(old, 0, 0)}}, {api.ErrTwice, []api.Row{row(ann, 1, 0), row(old, 5, 4)}}, {api.ErrTwice, []api.Row{row("doc:p#viewer@user:ann", 30, 0)}},
		{api.ErrRange, []api.Row{row(ann, 0, 0)}}, {api.ErrRange, []api.Row{row(ann, -1, 0)}}, {api.ErrRange, []api.Row{row(ann, math.MinInt64, 0)}}, {api.ErrRange, []api.Row{row(ann, maxRev+1, 0)}}, {api.ErrRange, []api.Row{row(ann, math.MaxInt64, 0)}}, {api.ErrRange, []api.Row{row(ann, 0, 5)}}, {api.ErrRange, []api.Row{row(ann, -5, -3)}},
		{api.ErrRange, []api.Row{row(ann, 5, 5)}}, {api.ErrRange, []api.Row{row(ann, 5, 4)}}, {api.ErrRange, []api.Row{row(ann, 5, -1)}}, {api.ErrRange, []api.Row{row(ann, 1, maxRev+1)}}, {api.ErrRange, []api.Row{row(ann, maxRev, maxRev+1)}}, {api.ErrRange, []api.Row{row(ann, 5, math.MinInt64)}},
		// Rows of one tuple, others between them.
		{api.OK, []api.Row{row(ann, 1, 2), row(ann, 3, 0)}}, {api.OK, []api.Row{row(ann, 1, 2), row(bob, 1, 0), row(ann, 3, 4), row(ann, 9, 10)}},
		{api.ErrOrder, []api.Row{row(ann, 1, 2), row(ann, 2, 0)}}, {api.ErrOrder, []api.Row{row(ann, 3, 4), row(ann, 1, 2)}}, {api.ErrOrder, []api.Row{row(ann, 1, 0), row(ann, 2, 0)}}, {api.ErrOrder, []api.Row{row(ann, 1, 0), row(ann, 2, 3)}}, {api.ErrOrder, []api.Row{row(ann, 1, 2), row(ann, 1, 2)}}, {api.ErrOrder, []api.Row{row(ann, 1, 9), row(bob, 1, 2), row(ann, 3, 4)}},
		// The last row ahead counts, not an earlier one.
		{api.ErrOrder, []api.Row{row(ann, 1, 2), row(ann, 5, 9), row(ann, 4, 5)}}, {api.ErrOrder, []api.Row{row(ann, 1, 2), row(ann, 5, 0), row(ann, 6, 0)}},
		// ErrRange stands ahead of ErrOrder; the first row that isn't right counts.
		{api.ErrRange, []api.Row{row(ann, 1, 0), row(ann, 0, 0)}}, {api.ErrRange, []api.Row{row(ann, 5, 6), row(ann, 5, 5)}}, {api.ErrOrder, []api.Row{row(ann, 1, 0), row(ann, 2, 0), {}}}, {api.ErrRange, []api.Row{row(ann, 0, 0), row(old, 1, 0)}},
	} {
		had := []api.Row{row(old, 3, 0), row("doc:p#viewer@user:ann", 3, 9)}
		s := loaded(t, 2, had...)
		if e := s.Load(c.rows...); e != c.want {
			t.Errorf("Load(%v): %v, want %v", c.rows, e, c.want)
		}
		m := &model{rows: had, watermark: 2}
		if c.want == api.OK {
			m.rows = append(m.rows, c.rows...)
		}
		m.judge(t, "loaded", s, []api.Tuple{tup(ann)}, 1, 2, 3, 4, 5, 9, maxRev)
	}
}

// P7.4 and P7.5: also rows that are over at the watermark, which the next Collect takes, though the watermark stays.
func TestLoadBelowTheWatermark(t *testing.T) {
	s := loaded(t, 10)
	if e := s.Load(row(ann, 1, 2), row(ann, 5, 10), row(ann, 12, 0), row(bob, 3, 4)); e != api.OK {
		t.Fatal(e)
	}
	has(t, "loaded", s, row(ann, 1, 2), row(ann, 5, 10), row(ann, 12, 0), row(bob, 3, 4))
	if s.Load(row(bob, 20, 0)) != api.ErrTwice {
		t.Error("a tuple of which a row is over")
	}
	if e := s.Collect(10); e != api.OK || s.Watermark() != 10 {
		t.Errorf("Collect: %v, %d", e, s.Watermark())
	}
	has(t, "collected", s, row(ann, 12, 0))
	if e := s.Load(row(bob, 20, 0)); e != api.OK {
		t.Error(e)
	}
}

// P7.5
func TestCollect(t *testing.T) {
	rows := []api.Row{row(ann, 1, 3), row(ann, 4, 6), row(ann, 7, 0), row(bob, 2, 5), row(cat, 2, 0)}
	for watermark := range int64(9) {
		s := loaded(t, watermark, rows...)
		m := &model{rows: slices.Clone(rows)}
		m.collect(watermark)
		m.judge(t, "collected", s, nil, 0, 1, 2, 3, 4, 5, 6, 7, 8, 9)
		before := s.Rows()
		for rev, want := range map[int64]api.Errno{math.MinInt64: api.ErrRange, -1: api.ErrRange, maxRev + 1: api.ErrRange, math.MaxInt64: api.ErrRange, watermark - 1: api.ErrOrder, 0: api.ErrOrder} {
			if rev == watermark {
				continue
			}
			if rev < 0 {
				want = api.ErrRange
			}
			if e := s.Collect(rev); e != want || s.Watermark() != watermark {
				t.Errorf("Collect(%d) behind %d: %v, %d", rev, watermark, e, s.Watermark())
			}
			has(t, "refused", s, before...)
		}
	}
	s := loaded(t, 0, rows...)
	for _, rev := range []int64{0, 1, 1, 5, 5, maxRev, maxRev} {
		if e := s.Collect(rev); e != api.OK || s.Watermark() != rev {
			t.Errorf("Collect(%d): %v, %d", rev, e, s.Watermark())
		}
	}
	has(t, "all collected", s, row(ann, 7, 0), row(cat, 2, 0))
	if s.Check(maxRev, muts("+"+bob)...) != api.ErrOrder {
		t.Error("a mutation at the last watermark")
	}
}

// P7.5: of a tuple whose rows are gone nothing is known any more.
func TestBehindCollect(t *testing.T) {
	s := loaded(t, 5, row(ann, 1, 5), row(bob, 2, 4))
	has(t, "collected", s)
	apply(t, s, 6, "+"+ann)
	if e := s.Load(row(bob, 1, 2)); e != api.OK {
		t.Error(e)
	}
	(&model{rows: []api.Row{row(ann, 6, 0), row(bob, 1, 2)}, watermark: 5}).judge(t, "anew", s, nil, 4, 5, 6)
}

// P7.6
func TestDrop(t *testing.T) {
	rows := []api.Row{row(ann, 1, 3), row(ann, 4, 0), row(bob, 2, 5), row("doc:a#owner@user:ann", 1, 0), row("doc:b#viewer@user:ann", 1, 0), row("doc:c#viewer@user:ann", 1, 2), row("doc:c#viewer@user:bob", 3, 0), row("doc:aa#viewer@doc:a#viewer", 1, 0), row("doc:d#viewer@user:ann", 4, 0)}
	for _, objects := range [][]string{nil, {}, {"doc:a"}, {"doc:b"}, {"doc:c", "doc:a"}, {"doc:a", "doc:a"}, {"doc:d", "none", "doc:b", ""}, {"doc:a#viewer"}, {"user:ann"}, {"doc"}, {"doc:"}, {"doc:d", "doc:c", "doc:b", "doc:a", "doc:aa"}, {"\xff", "Doc:a", "doc:a "}} {
		s := loaded(t, 2, rows...)
		m := &model{rows: slices.Clone(rows)}
		m.collect(2)
		s.Drop(objects...)
		m.drop(objects)
		m.judge(t, "dropped", s, []api.Tuple{tup(ann), tup("doc:c#viewer@user:bob")}, 1, 2, 3, 4, 5)
		// What is gone may come again, at revisions ahead of those it had.
		for _, object := range objects {
			list := []api.Mutation{{Tuple: api.Tuple{Object: object, Relation: "viewer", User: "user:ann"}}}
			if e, want := s.Apply(3, list...), m.apply(3, list); e != want {
				t.Errorf("Apply behind Drop(%q): %v, want %v", objects, e, want)
			}
		}
		m.judge(t, "put again", s, nil, 2, 3, 4, 5)
	}
}

// P7.1 to P7.6, and P2: any calls, one behind the other; a refused one has changed nothing.
func TestManyCalls(t *testing.T) {
	random := rand.New(rand.NewSource(7))
	var tuples []api.Tuple
	for _, object := range []string{"doc:a", "doc:b", "doc:a_"} {
		for _, relation := range []string{"viewer", "owner"} {
			for _, user := range []string{"user:ann", "user:bob", "doc:a#viewer"} {
				tuples = append(tuples, api.Tuple{Object: object, Relation: relation, User: user})
			}
		}
	}
	pick := func() api.Tuple {
		if random.Intn(40) == 0 {
			return api.Tuple{Object: "doc:a", Relation: "viewer", User: "user"}
		}
		return tuples[random.Intn(len(tuples))]
	}
	told := map[api.Errno]int{}
	for range 150 {
		s, m := New(), &model{}
		for now := range int64(80) {
			rev := now + int64(random.Intn(7)) - 3
			var e, want api.Errno
			switch what := random.Intn(20); {
			case what < 12:
				list := make([]api.Mutation, random.Intn(4))
				for i := range list {
					list[i] = api.Mutation{Delete: random.Intn(3) == 0, Tuple: pick()}
				}
				if e, want := s.Check(rev, list...), m.check(rev, list); e != want {
					t.Fatalf("Check(%d, %v): %v, want %v", rev, list, e, want)
				}
				e, want = s.Apply(rev, list...), m.apply(rev, list)
			case what < 15:
				list := make([]api.Row, random.Intn(5))
				for i := range list {
					list[i] = api.Row{Tuple: pick(), Since: rev + int64(random.Intn(9))}
					if random.Intn(3) > 0 {
						list[i].Until = list[i].Since + int64(random.Intn(6))
					}
				}
				e, want = s.Load(list...), m.load(list)
			case what < 18:
				rev -= int64(random.Intn(30))
				e, want = s.Collect(rev), m.collect(rev)
			default:
				objects := []string{pick().Object, pick().Object}[:random.Intn(3)]
				s.Drop(objects...)
				m.drop(objects)
			}
			told[want]++
			if e != want {
				t.Fatalf("%v, want %v", e, want)
			}
			m.judge(t, "one of many", s, tuples, rev-9, rev-1, rev, rev+1, rev+9)
		}
	}
	for _, e := range []api.Errno{api.OK, api.ErrRange, api.ErrForm, api.ErrTwice, api.ErrOrder} {
		if told[e] < 20 {
			t.Errorf("%v was told %d times only", e, told[e])
		}
	}
}

// P7.3 to P7.6: very many tuples with one object, and very many with one user, put and gone one by one.
func TestManyTuples(t *testing.T) {
	const many = 50000
	s := New()
	id := func(i int) string { return "doc:" + strconv.Itoa(i*7919%many+many) }
	for i := range many {
		apply(t, s, int64(i+1), "+doc:a#viewer@"+id(i), "+"+id(i)+"#viewer@user:ann")
	}
	users, _ := s.Users("doc:a", "viewer", many)
	of, _ := s.Of("user:ann", many)
	if len(users) != many || !slices.IsSorted(users) || len(of) != many || !slices.IsSortedFunc(of, tuple.Compare) || len(s.Rows()) != 2*many {
		t.Fatalf("%d users, %d tuples", len(users), len(of))
	}
	for i := range many - 1 {
		s.Drop(id(many - 1 - i))
	}
	has, e := s.Of("user:ann", many)
	if e != api.OK || len(has) != 1 || has[0].Object != id(0) {
		t.Errorf("%v, %v", has, e)
	}
	s.Drop("doc:a")
	if rows := s.Rows(); len(rows) != 1 || rows[0].Tuple != has[0] {
		t.Errorf("%v", rows)
	}
}

// P7.3: very many rows of one tuple.
func TestManyRowsOfOneTuple(t *testing.T) {
	s := New()
	const many = 50000
	for i := range int64(many) {
		apply(t, s, 3*i+1, "+"+ann)
		apply(t, s, 3*i+3, "-"+ann)
	}
	for rev := range int64(3 * many) {
		if there, e := s.Has(tup(ann), rev); there != (rev%3 != 0) || e != api.OK {
			t.Fatalf("at %d: %v, %v", rev, there, e)
		}
	}
	if e := s.Collect(3 * (many - 1)); e != api.OK {
		t.Error(e)
	}
	has(t, "collected", s, row(ann, 3*many-2, 3*many))
}

// Of tuples that are gone nothing is kept.
func TestNothingIsKeptOfWhatIsGone(t *testing.T) {
	s := loaded(t, 0, row(ann, 1, 3), row(ann, 4, 6), row(bob, 2, 5), row("doc:b#owner@user:cy", 2, 0), row("doc:b#owner@user:dan", 2, 0))
	s.Collect(6)
	s.Drop("doc:b")
	if sizes := []int{len(s.entries), len(s.byObject.lists), len(s.byPlace.lists), len(s.byUser.lists)}; slices.Max(sizes) > 0 {
		t.Errorf("%v", sizes)
	}
}

// P2: what is handed in is neither changed nor kept.
func TestArgumentsStay(t *testing.T) {
	s := New()
	list := muts("+"+bob, "+"+ann, "-"+cat)
	rows := []api.Row{row("doc:z#viewer@user:ann", 4, 6), row("doc:b#viewer@user:ann", 3, 0), row("doc:z#viewer@user:ann", 8, 0)}
	objects := []string{"doc:z", "doc:b"}
	kept, keptRows, keptObjects := slices.Clone(list), slices.Clone(rows), slices.Clone(objects)
	s.Check(9, list...)
	s.Apply(9, list...)
	s.Load(rows...)
	before := s.Rows()
	if !slices.Equal(list, kept) || !slices.Equal(rows, keptRows) {
		t.Errorf("changed: %v, %v", list, rows)
	}
	clear(list)
	clear(rows)
	has(t, "scribbled on", s, before...)
	s.Drop(objects...)
	if !slices.Equal(objects, keptObjects) {
		t.Errorf("changed: %q", objects)
	}
	apply(t, s, 20, "-"+ann)
	has(t, "gone on", s, row(ann, 9, 20), row(bob, 9, 0))
}

// P2: what is answered is new memory, its spare room too.
func TestAnswersAreNewMemory(t *testing.T) {
	s := loaded(t, 0, row(ann, 1, 0), row(bob, 1, 3), row(bob, 4, 0), row("doc:b#viewer@user:ann", 1, 0))
	m := &model{rows: s.Rows()}
	rows, users := s.Rows(), func() []string { list, _ := s.Users("doc:a", "viewer", 1); return list }()
	of, _ := s.Of("user:ann", 1)
	other, _ := s.Of("user:ann", 1)
	clear(rows[:cap(rows)])
	clear(users[:cap(users)])
	clear(of[:cap(of)])
	if !slices.Equal(other, []api.Tuple{tup(ann), tup("doc:b#viewer@user:ann")}) {
		t.Errorf("two answers share memory: %v", other)
	}
	m.judge(t, "scribbled on", s, nil, 1, 2, 3, 4)
	kept, again := s.Rows(), s.Rows()
	apply(t, s, 9, "-"+ann, "-"+bob, "+"+cat)
	s.Collect(9)
	s.Drop("doc:b")
	if !slices.Equal(kept, again) || !slices.Equal(kept, m.all()) {
		t.Errorf("an answer is kept: %v", kept)
	}
}

// P1, and what holds of all stores.
func FuzzNothingPanics(f *testing.F) {
	f.Add("doc:a", "viewer", "user:ann", int64(3), int64(5), true)
	f.Add("", "#", "\xff", int64(-1), int64(math.MinInt64), false)
	f.Add("a:b", "c", "d:e#f", int64(maxRev), int64(math.MaxInt64), true)
	f.Fuzz(func(t *testing.T, object, relation, user string, a, b int64, gone bool) {
		s, m := New(), &model{}
		x := api.Tuple{Object: object, Relation: relation, User: user}
		for _, rev := range []int64{a, b, a} {
			list := []api.Mutation{{Delete: gone, Tuple: x}, {Tuple: tup(ann)}}
			rows := []api.Row{{Tuple: tup(bob), Since: b, Until: a}, {Tuple: x, Since: a, Until: b}}
			if e, want := s.Apply(rev, list...), m.apply(rev, list); e != want {
				t.Errorf("Apply(%d, %v): %v, want %v", rev, list, e, want)
			}
			if e, want := s.Load(rows...), m.load(rows); e != want {
				t.Errorf("Load(%v): %v, want %v", rows, e, want)
			}
			m.judge(t, "loaded", s, []api.Tuple{x}, a, b)
			if e, want := s.Collect(rev), m.collect(rev); e != want {
				t.Errorf("Collect(%d): %v, want %v", rev, e, want)
			}
			m.judge(t, "collected", s, []api.Tuple{x}, a, b)
		}
		s.Drop(object, user)
		m.drop([]string{object, user})
		m.judge(t, "dropped", s, []api.Tuple{x}, a, b)
	})
}
