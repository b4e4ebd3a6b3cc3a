package watch

import (
	"fmt"
	"math"
	"slices"
	"strings"
	"testing"

	"porter/api"
	"porter/tuple"
)

// tup: the tuple of three letters; of no letters the zero one.
func tup(letters string) api.Tuple {
	if letters == "" {
		return api.Tuple{}
	}
	return api.Tuple{Object: letters[:1], Relation: letters[1:2], User: letters[2:]}
}

// tups: the tuples of some words.
func tups(words string) []api.Tuple {
	var list []api.Tuple
	for _, word := range strings.Fields(words) {
		list = append(list, tup(word))
	}
	return list
}

// row: a row of the tuple of some letters.
func row(letters string, since, until int64) api.Row {
	return api.Row{Tuple: tup(letters), Since: since, Until: until}
}

// change: the change of a text: + or -, letters, @ and a revision.
func change(s string) Change {
	letters, rev, _ := strings.Cut(s[1:], "@")
	c := Change{Mutation: api.Mutation{Delete: s[0] == '-', Tuple: tup(letters)}}
	fmt.Sscan(rev, &c.Rev)
	return c
}

// changes: those of some words.
func changes(words string) []Change {
	var list []Change
	for _, word := range strings.Fields(words) {
		list = append(list, change(word))
	}
	return list
}

// P22.1 and P22.6: the chapter's example.
func TestExample(t *testing.T) {
	rows := []api.Row{{Tuple: api.Tuple{Object: "doc:a", Relation: "viewer", User: "user:ann"}, Since: 3, Until: 5}}
	list := Changes(rows, 0, 9)
	put := Change{Rev: 3, Mutation: api.Mutation{Tuple: rows[0].Tuple}}
	gone := Change{Rev: 5, Mutation: api.Mutation{Delete: true, Tuple: rows[0].Tuple}}
	if !slices.Equal(list, []Change{put, gone}) {
		t.Errorf("Changes: %v", list)
	}
	if again := Rows(list...); !slices.Equal(again, rows) {
		t.Errorf("Rows: %v", again)
	}
}

// P22.1: between which revisions.
func TestChangesBetween(t *testing.T) {
	rows := []api.Row{row("abc", 3, 5), row("abd", 4, 0)}
	for _, c := range []struct {
		from, to int64
		want     string
	}{
		{0, 9, "+abc@3 +abd@4 -abc@5"}, {2, 5, "+abc@3 +abd@4 -abc@5"}, {2, 4, "+abc@3 +abd@4"}, {3, 5, "+abd@4 -abc@5"}, {3, 4, "+abd@4"}, {4, 5, "-abc@5"}, {2, 3, "+abc@3"},
		{5, 9, ""}, {0, 2, ""}, {3, 3, ""}, {4, 4, ""}, {5, 5, ""}, {9, 0, ""}, {5, 2, ""}, {-9, -1, ""},
		{math.MinInt64, math.MaxInt64, "+abc@3 +abd@4 -abc@5"}, {math.MaxInt64, math.MinInt64, ""}, {math.MinInt64, 3, "+abc@3"}, {4, math.MaxInt64, "-abc@5"}, {math.MinInt64, math.MinInt64, ""}, {math.MaxInt64, math.MaxInt64, ""},
	} {
		if list := Changes(rows, c.from, c.to); !slices.Equal(list, changes(c.want)) {
			t.Errorf("from %d to %d: %v, want %s", c.from, c.to, list, c.want)
		}
	}
	if list := Changes(nil, 0, 9); len(list) != 0 {
		t.Errorf("of no rows: %v", list)
	}
}

// P22.1: which rows are passed over, and what raw ones tell.
func TestChangesOfRawRows(t *testing.T) {
	for _, c := range []struct {
		since, until int64
		want         string
	}{
		{3, 4, "+abc@3 -abc@4"}, {3, 3, ""}, {3, 2, ""}, {3, 1, ""}, {3, -1, ""}, {3, math.MinInt64, ""}, {3, 0, "+abc@3"}, {3, math.MaxInt64, "+abc@3 -abc@9223372036854775807"},
		{0, 0, "+abc@0"}, {0, -1, ""}, {0, 1, "+abc@0 -abc@1"}, {-1, 0, "+abc@-1"}, {-1, 1, "+abc@-1 -abc@1"}, {-5, -3, "+abc@-5 -abc@-3"}, {-3, -3, ""}, {-3, -5, ""}, {math.MaxInt64, 0, "+abc@9223372036854775807"}, {math.MaxInt64, math.MaxInt64, ""},
		// What is at the least number is above none.
		{math.MinInt64, 0, ""}, {math.MinInt64, math.MinInt64, ""}, {math.MinInt64, -7, "-abc@-7"}, {math.MinInt64, math.MaxInt64, "-abc@9223372036854775807"},
	} {
		if list := Changes([]api.Row{row("abc", c.since, c.until)}, math.MinInt64, math.MaxInt64); !slices.Equal(list, changes(c.want)) {
			t.Errorf("a row from %d to %d: %v, want %s", c.since, c.until, list, c.want)
		}
	}
	if list := Changes([]api.Row{{Since: 1, Until: 2}}, 0, 2); !slices.Equal(list, []Change{{Rev: 1}, {Rev: 2, Mutation: api.Mutation{Delete: true}}}) {
		t.Errorf("a row of no tuple: %v", list)
	}
}

// P22.1: by their revisions, then by their tuples, then as the rows stand.
func TestOrderOfChanges(t *testing.T) {
	for _, c := range []struct {
		rows []api.Row
		want string
	}{
		{[]api.Row{row("zzz", 1, 0), row("aaa", 2, 0)}, "+zzz@1 +aaa@2"}, {[]api.Row{row("aaa", 2, 0), row("zzz", 1, 0)}, "+zzz@1 +aaa@2"},
		{[]api.Row{row("aaa", 2, 4), row("zzz", 1, 3)}, "+zzz@1 +aaa@2 -zzz@3 -aaa@4"}, {[]api.Row{row("aaa", 10, 0), row("bbb", 9, 0), row("ccc", -9, 0), row("ddd", -10, 0)}, "+ddd@-10 +ccc@-9 +bbb@9 +aaa@10"},
		{[]api.Row{row("bba", 1, 0), row("bab", 1, 0), row("abb", 1, 0), row("baa", 1, 0), row("aba", 1, 0)}, "+aba@1 +abb@1 +baa@1 +bab@1 +bba@1"},
		{[]api.Row{row("aba", 1, 2), row("aab", 2, 0)}, "+aba@1 +aab@2 -aba@2"}, {[]api.Row{row("aab", 2, 0), row("aaa", 1, 2)}, "+aaa@1 -aaa@2 +aab@2"},
		{[]api.Row{row("a\xffa", 1, 0), row("a\x7fa", 1, 0), row("a\x00a", 1, 0)}, "+a\x00a@1 +a\x7fa@1 +a\xffa@1"},
		// Of one tuple, at one revision.
		{[]api.Row{row("aaa", 3, 5), row("aaa", 5, 0)}, "+aaa@3 -aaa@5 +aaa@5"}, {[]api.Row{row("aaa", 5, 0), row("aaa", 3, 5)}, "+aaa@3 +aaa@5 -aaa@5"},
		{[]api.Row{row("aaa", 3, 5), row("aaa", 3, 5)}, "+aaa@3 +aaa@3 -aaa@5 -aaa@5"}, {[]api.Row{row("aaa", 5, 7), row("aaa", 3, 5), row("aaa", 5, 0), row("aaa", 4, 5)}, "+aaa@3 +aaa@4 +aaa@5 -aaa@5 +aaa@5 -aaa@5 -aaa@7"},
	} {
		if list := Changes(c.rows, math.MinInt64, math.MaxInt64); !slices.Equal(list, changes(c.want)) {
			t.Errorf("%v: %v, want %s", c.rows, list, c.want)
		}
	}
}

// P22.1: so many alike ones that a sort that doesn't keep their order would be told.
func TestOrderOfManyChanges(t *testing.T) {
	var rows []api.Row
	var want []Change
	for i := range 3000 {
		if gone := i*i%7 < 3; gone {
			rows, want = append(rows, row("abc", 1, 5)), append(want, change("-abc@5"))
		} else {
			rows, want = append(rows, row("abc", 5, 9)), append(want, change("+abc@5"))
		}
	}
	if list := Changes(rows, 4, 5); !slices.Equal(list, want) {
		t.Error("alike changes aren't in the order of the rows")
	}
}

// P22.2
func TestAt(t *testing.T) {
	for _, c := range []struct {
		rows []api.Row
		rev  int64
		want string
	}{
		{nil, 0, ""}, {nil, 5, ""},
		{[]api.Row{row("abc", 3, 5)}, 2, ""}, {[]api.Row{row("abc", 3, 5)}, 3, "abc"}, {[]api.Row{row("abc", 3, 5)}, 4, "abc"}, {[]api.Row{row("abc", 3, 5)}, 5, ""}, {[]api.Row{row("abc", 3, 5)}, 6, ""},
		{[]api.Row{row("abc", 3, 0)}, 2, ""}, {[]api.Row{row("abc", 3, 0)}, 3, "abc"}, {[]api.Row{row("abc", 3, 0)}, math.MaxInt64, "abc"}, {[]api.Row{row("abc", 3, 0)}, math.MinInt64, ""},
		{[]api.Row{row("abc", 3, 3)}, 3, ""}, {[]api.Row{row("abc", 3, 2)}, 3, ""}, {[]api.Row{row("abc", 3, 2)}, 2, ""}, {[]api.Row{row("abc", 3, -1)}, 4, ""}, {[]api.Row{row("abc", 3, -1)}, -2, ""},
		{[]api.Row{row("abc", 0, 0)}, 0, "abc"}, {[]api.Row{row("abc", 0, 0)}, -1, ""}, {[]api.Row{row("abc", -3, 0)}, -3, "abc"}, {[]api.Row{row("abc", -3, -1)}, -2, "abc"}, {[]api.Row{row("abc", -3, -1)}, -1, ""}, {[]api.Row{row("abc", -3, 2)}, 0, "abc"},
		{[]api.Row{row("abc", math.MinInt64, math.MaxInt64)}, math.MinInt64, "abc"}, {[]api.Row{row("abc", math.MinInt64, math.MaxInt64)}, math.MaxInt64, ""}, {[]api.Row{row("abc", math.MaxInt64, 0)}, math.MaxInt64, "abc"},
		// In order, each once, whichever row tells it.
		{[]api.Row{row("bba", 1, 0), row("bab", 1, 0), row("abb", 1, 3), row("baa", 1, 2), row("aba", 2, 0)}, 2, "aba abb bab bba"},
		{[]api.Row{row("abd", 2, 0), row("abc", 1, 0), row("abd", 1, 5), row("abc", 2, 0), row("abc", 1, 0)}, 2, "abc abd"},
		{[]api.Row{row("abc", 1, 3), row("abc", 5, 7), row("abc", 7, 0)}, 4, ""}, {[]api.Row{row("abc", 1, 3), row("abc", 5, 7), row("abc", 7, 0)}, 6, "abc"}, {[]api.Row{row("abc", 1, 3), row("abc", 5, 7), row("abc", 7, 0)}, 7, "abc"}, {[]api.Row{row("abc", 3, 3), row("abc", 2, 4)}, 3, "abc"},
	} {
		if list := At(c.rows, c.rev); !slices.Equal(list, tups(c.want)) {
			t.Errorf("%v at %d: %q, want %s", c.rows, c.rev, list, c.want)
		}
	}
	if list := At([]api.Row{{}}, 0); !slices.Equal(list, []api.Tuple{{}}) {
		t.Errorf("no tuple: %q", list)
	}
}

// P22.3: as they are handed in, whatever their revisions are.
func TestPlay(t *testing.T) {
	for _, c := range []struct{ tuples, changes, want string }{
		{"", "", ""}, {"abc", "", "abc"}, {"zzz abc bbb abc abd zzz", "", "abc abd bbb zzz"},
		{"", "+abc@1", "abc"}, {"", "-abc@1", ""}, {"abc", "-abc@1", ""}, {"abc", "+abc@1", "abc"}, {"abc abc abc", "-abc@1", ""}, {"abc abd", "-abc@1", "abd"}, {"abc", "-abd@1", "abc"},
		{"", "+abc@1 -abc@2", ""}, {"", "+abc@2 -abc@1", ""}, {"", "-abc@1 +abc@2", "abc"}, {"abc", "-abc@9 +abc@1", "abc"}, {"", "+abc@1 +abc@2 -abc@3", ""}, {"", "+abc@1 -abc@1 +abc@1", "abc"}, {"abc", "-abc@1 -abc@1 +abc@1", "abc"}, {"abc", "+abc@0 -abc@0", ""}, {"abc", "-abc@-5", ""},
		{"bbb", "+bba@3 +bab@2 +abb@1 -bbb@7 +aab@0", "aab abb bab bba"}, {"aba", "+baa@1", "aba baa"}, {"b\xffb b\x7fb", "+b\x80b@1 +b\x00b@1", "b\x00b b\x7fb b\x80b b\xffb"},
	} {
		if list := Play(tups(c.tuples), changes(c.changes)...); !slices.Equal(list, tups(c.want)) {
			t.Errorf("%s with %s: %q, want %s", c.tuples, c.changes, list, c.want)
		}
	}
	if list := Play(nil, Change{}, change("+abc@1")); !slices.Equal(list, []api.Tuple{{}, tup("abc")}) {
		t.Errorf("no tuple: %q", list)
	}
}

// P22.4
func TestNet(t *testing.T) {
	for _, c := range []struct{ from, to, want string }{
		{"", "", ""}, {"abc", "", "-abc"}, {"", "abc", "+abc"}, {"abc", "abc", ""}, {"abc", "abd", "-abc +abd"}, {"abd", "abc", "+abc -abd"},
		{"abc abc", "", "-abc"}, {"", "abc abc", "+abc"}, {"abc abc", "abc", ""}, {"abc", "abc abc", ""}, {"abc abd", "abd abc", ""}, {"abc abd abc", "abd abe abe", "-abc +abe"},
		{"bbb bab aaa", "baa abb aaa bab", "+abb +baa -bbb"}, {"abb baa", "bba aab", "+aab -abb -baa +bba"}, {"zzz a\xffa", "a\x7fa zzz", "+a\x7fa -a\xffa"},
	} {
		var want []api.Mutation
		for _, word := range strings.Fields(c.want) {
			want = append(want, change(word).Mutation)
		}
		if list := Net(tups(c.from), tups(c.to)); !slices.Equal(list, want) {
			t.Errorf("from %s to %s: %v, want %s", c.from, c.to, list, c.want)
		}
	}
	if list := Net([]api.Tuple{{}, tup("abc")}, nil); !slices.Equal(list, []api.Mutation{{Delete: true}, {Delete: true, Tuple: tup("abc")}}) {
		t.Errorf("no tuple: %v", list)
	}
}

// P22.5
func TestBack(t *testing.T) {
	for _, c := range [][2]string{
		{"", ""}, {"+abc@3", "-abc@3"}, {"-abc@3", "+abc@3"}, {"+abc@3 -abc@5", "+abc@5 -abc@3"}, {"+abc@5 +abc@5 +abd@2", "-abd@2 -abc@5 -abc@5"},
		{"-zzz@-4 +aaa@9223372036854775807 -bbb@0", "+bbb@0 -aaa@9223372036854775807 +zzz@-4"},
	} {
		there, back := changes(c[0]), changes(c[1])
		if list := Back(there); !slices.Equal(list, back) {
			t.Errorf("back of %s: %v", c[0], list)
		}
		if list := Back(back); !slices.Equal(list, there) {
			t.Errorf("back of %s: %v", c[1], list)
		}
	}
	if list := Back([]Change{{}}); !slices.Equal(list, []Change{{Mutation: api.Mutation{Delete: true}}}) {
		t.Errorf("back of nothing that is put: %v", list)
	}
}

// P22.6
func TestRows(t *testing.T) {
	for _, c := range []struct {
		changes string
		want    []api.Row
	}{
		{"", nil}, {"+abc@3", []api.Row{row("abc", 3, 0)}}, {"-abc@3", nil}, {"+abc@3 -abc@5", []api.Row{row("abc", 3, 5)}}, {"-abc@3 +abc@5", []api.Row{row("abc", 5, 0)}}, {"-abc@3 -abc@4", nil},
		{"+abc@3 +abc@4", []api.Row{row("abc", 3, 0)}}, {"+abc@3 +abc@4 -abc@5 -abc@6", []api.Row{row("abc", 3, 5)}}, {"+abc@3 -abc@5 +abc@5", []api.Row{row("abc", 3, 5), row("abc", 5, 0)}}, {"+abc@3 -abc@5 +abc@7 -abc@8 +abc@9", []api.Row{row("abc", 3, 5), row("abc", 7, 8), row("abc", 9, 0)}},
		{"+abc@3 -abd@5", []api.Row{row("abc", 3, 0)}}, {"+abd@1 +abc@3 -abd@5", []api.Row{row("abc", 3, 0), row("abd", 1, 5)}}, {"+bba@1 +bab@2 +abb@3", []api.Row{row("abb", 3, 0), row("bab", 2, 0), row("bba", 1, 0)}},
		// The revisions are taken as they are: they needn't rise.
		{"+abc@5 -abc@5", []api.Row{row("abc", 5, 5)}}, {"+abc@5 -abc@3", []api.Row{row("abc", 5, 3)}}, {"+abc@9 -abc@10 +abc@3 -abc@4", []api.Row{row("abc", 3, 4), row("abc", 9, 10)}}, {"+abc@-3 -abc@-1", []api.Row{row("abc", -3, -1)}}, {"+abc@9223372036854775807 -abc@-9223372036854775808", []api.Row{row("abc", math.MaxInt64, math.MinInt64)}},
		{"+abc@3 -abc@7 +abc@3 -abc@5 +abc@3", []api.Row{row("abc", 3, 7), row("abc", 3, 5), row("abc", 3, 0)}}, {"+abc@3 -abc@2 +abd@1 +abc@3 -abc@1 +abc@2", []api.Row{row("abc", 2, 0), row("abc", 3, 2), row("abc", 3, 1), row("abd", 1, 0)}},
		// The Until 0 is none: such a row is there still.
		{"+abc@3 -abc@0", []api.Row{row("abc", 3, 0)}}, {"+abc@3 -abc@0 +abc@4", []api.Row{row("abc", 3, 0)}}, {"+abc@3 -abc@0 -abc@5", []api.Row{row("abc", 3, 5)}}, {"+abc@0 -abc@0 +abc@0 -abc@1", []api.Row{row("abc", 0, 1)}}, {"+abc@0", []api.Row{row("abc", 0, 0)}},
	} {
		if rows := Rows(changes(c.changes)...); !slices.Equal(rows, c.want) {
			t.Errorf("%s: %v, want %v", c.changes, rows, c.want)
		}
	}
	if rows := Rows(Change{}); !slices.Equal(rows, []api.Row{{}}) {
		t.Errorf("no tuple: %v", rows)
	}
}

// P22.6: so many alike rows that a sort that doesn't keep their order would be told.
func TestOrderOfManyRows(t *testing.T) {
	var list []Change
	var want []api.Row
	for i := range 3000 {
		until := int64(1 + i*i%77)
		list = append(list, Change{Rev: 5, Mutation: api.Mutation{Tuple: tup("abc")}}, Change{Rev: until, Mutation: api.Mutation{Delete: true, Tuple: tup("abc")}})
		want = append(want, row("abc", 5, until))
	}
	if rows := Rows(list...); !slices.Equal(rows, want) {
		t.Error("alike rows aren't as they were made")
	}
}

// spare: a list with some spare room, in which there is something.
func spare[T any](list []T, thing T) []T {
	return append(slices.Clone(list), thing, thing)[:len(list)]
}

// whole: a list with its spare room, of its own memory.
func whole[T any](list []T) []T { return slices.Clone(list[:cap(list)]) }

// P2: what is handed in isn't changed, its spare room neither.
func TestArgumentsStay(t *testing.T) {
	rows := spare([]api.Row{row("zzz", 5, 7), row("abc", 3, 5), row("abc", 5, 0), row("abd", 4, 4), row("abc", 1, 0)}, row("eee", 1, 0))
	tuples := spare(tups("zzz abc abd abc"), tup("eee"))
	others := spare(tups("yyy abd"), tup("fff"))
	list := spare(changes("+zzz@5 -abc@3 +aaa@7 +abc@2 -zzz@1"), change("-eee@9"))
	keptRows, keptTuples, keptOthers, keptList := whole(rows), whole(tuples), whole(others), whole(list)
	Changes(rows, 0, 9)
	At(rows, 5)
	Play(tuples, list...)
	Net(tuples, others)
	Back(list)
	Rows(list...)
	if !slices.Equal(whole(rows), keptRows) || !slices.Equal(whole(tuples), keptTuples) || !slices.Equal(whole(others), keptOthers) || !slices.Equal(whole(list), keptList) {
		t.Errorf("an argument was changed: %v, %v, %v, %v", whole(rows), whole(tuples), whole(others), whole(list))
	}
}

// scribbled: is an answer the same as ever, when another one of the same question was written on, its spare room too?
func scribbled[T comparable](t *testing.T, what string, ask func() []T) {
	t.Helper()
	first := ask()
	kept := slices.Clone(first)
	second := ask()
	clear(first[:cap(first)])
	if len(kept) == 0 || !slices.Equal(second, kept) || !slices.Equal(ask(), kept) {
		t.Errorf("%s: %v, %v, want %v", what, second, ask(), kept)
	}
}

// P2: what is answered is new memory.
func TestMemory(t *testing.T) {
	rows := []api.Row{row("abc", 3, 5), row("abd", 4, 0)}
	tuples, others := tups("abc abd"), tups("abd abe")
	list := changes("+abc@3 +abd@4 -abc@5")
	scribbled(t, "Changes", func() []Change { return Changes(rows, 0, 9) })
	scribbled(t, "At", func() []api.Tuple { return At(rows, 4) })
	scribbled(t, "Play", func() []api.Tuple { return Play(tuples) })
	scribbled(t, "Play of changes", func() []api.Tuple { return Play(nil, list...) })
	scribbled(t, "Net", func() []api.Mutation { return Net(tuples, others) })
	scribbled(t, "Back", func() []Change { return Back(list) })
	scribbled(t, "Rows", func() []api.Row { return Rows(list...) })
	if !slices.Equal(tuples, tups("abc abd")) || !slices.Equal(list, changes("+abc@3 +abd@4 -abc@5")) || rows[0] != row("abc", 3, 5) {
		t.Errorf("an answer is an argument's memory: %v, %v, %v", tuples, list, rows)
	}
}

// P22.2 to P22.4: tuples whose printed texts stand in another order than they do.
func TestOrderOfTuples(t *testing.T) {
	a := api.Tuple{Object: "doc:a", Relation: "z", User: "z"}
	b := api.Tuple{Object: "doc:a!", Relation: "a", User: "a"}
	want := []api.Tuple{a, b}
	if tuple.Print(a) < tuple.Print(b) {
		t.Fatal("printed in the same order")
	}
	if list := At([]api.Row{{Tuple: b}, {Tuple: a}}, 1); !slices.Equal(list, want) {
		t.Errorf("At: %q", list)
	}
	if list := Play([]api.Tuple{b, a}); !slices.Equal(list, want) {
		t.Errorf("Play: %q", list)
	}
	if list := Net(nil, []api.Tuple{b, a}); !slices.Equal(list, []api.Mutation{{Tuple: a}, {Tuple: b}}) {
		t.Errorf("Net: %v", list)
	}
	if rows := Rows(Back(Back([]Change{{1, api.Mutation{Tuple: b}}, {2, api.Mutation{Tuple: a}}}))...); !slices.Equal(rows, []api.Row{{Tuple: a, Since: 2}, {Tuple: b, Since: 1}}) {
		t.Errorf("Rows: %v", rows)
	}
}
