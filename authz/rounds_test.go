package authz

import (
	"fmt"
	"slices"
	"strings"
	"testing"

	"porter/api"
	"porter/check"
)

// putMany: the last revision of some writes that put all tuples.
func putMany(t *testing.T, s *Service, texts []string) int64 {
	t.Helper()
	rev := int64(0)
	for part := range slices.Chunk(texts, 60) {
		rev = puts(t, s, part...)
	}
	return rev
}

// needed: a question comes to an answer within so many rounds.
func needed(t *testing.T, s *Service, what string, k, rounds int, wanted Answer) {
	t.Helper()
	a := finished(t, s, k, rounds)
	if len(a.Users) > 5 && len(a.Users) == len(wanted.Users) {
		a.Users, wanted.Users = a.Users[:1], wanted.Users[:1]
	}
	is(t, what, a, wanted)
}

// P20.6: a question that leads from one to the next, at all nodes, and once more.
func TestLongWay(t *testing.T) {
	s := made(t, 5)
	var texts []string
	for i := range 299 {
		texts = append(texts, fmt.Sprintf("group:g%d#member@group:g%d#member", i, i+1))
	}
	rev := putMany(t, s, append(texts, "group:g299#member@user:ann"))
	for i := range 7 {
		k := asks(t, s, i%5, "group:g0#member@user:ann", rev, check.MaxBudget)
		needed(t, s, "Check", k, 2000, Answer{Done: true, Rev: rev, Allow: true})
		k = asks(t, s, i%5, "group:g0#member@user:bob", rev, 300)
		needed(t, s, "Check", k, 2000, Answer{Done: true, Rev: rev})
		k = asks(t, s, i%5, "group:g0#member@user:bob", rev, 299)
		needed(t, s, "Check", k, 2000, Answer{Done: true, Code: api.ErrBudget})
		k = asks(t, s, i%5, "group:g0#member@user:bob", 0, 5)
		needed(t, s, "Check", k, 400, Answer{Done: true, Code: api.ErrBudget})
		k = asks(t, s, i%5, "group:g295#member@user:ann", 0, 5)
		needed(t, s, "Check", k, 400, Answer{Done: true, Rev: rev, Allow: true})
		k = asks(t, s, i%5, "group:g0#member@user:ann", rev+1, check.MaxBudget)
		needed(t, s, "Check", k, 400, Answer{Done: true, Code: api.ErrUnavailable})
	}
}

// P20.6: a question that leads to many at once: more than a node keeps, and more users than a message tells.
func TestManyWays(t *testing.T) {
	s := made(t, 4)
	var texts, users []string
	for i := range 149 {
		users = append(users, fmt.Sprintf("user:u%03d", i))
		texts = append(texts, fmt.Sprintf("doc:a#viewer@group:g%d#member", i), fmt.Sprintf("group:g%d#member@%s", i, users[i]))
	}
	rev := putMany(t, s, append(texts, "doc:b#parent@doc:a", "doc:b#banned@user:u000"))
	for i := range 6 {
		k, _ := s.Expand(i%4, tup("doc:a#viewer@"), rev, check.MaxBudget)
		needed(t, s, "Expand", k, 400, Answer{Done: true, Rev: rev, Users: users})
		k, _ = s.Expand(i%4, tup("doc:b#viewer@"), rev, check.MaxBudget)
		needed(t, s, "Expand", k, 400, Answer{Done: true, Rev: rev, Users: users[1:]})
		k, _ = s.Read(i%4, tup("doc:a#viewer@"), rev)
		if a := finished(t, s, k, 400); len(a.Users) != 149 || a.Users[148] != "group:g99#member" || !slices.IsSorted(a.Users) {
			t.Errorf("Read: %v", a)
		}
	}
}

// widest: a schema of which one question asks for as many places as a text has room for.
func widest() (string, int) {
	name := func(i int) string { return string([]byte{byte('a' + i/26), byte('a' + i%26)}) }
	text, whole := "namespace n\n", "relation z:n=aa->z"
	count := 1
	for ; len(text)+len(whole)+40 < 8192; count++ {
		text += "relation " + name(count-1) + ":n\n"
		whole += "|" + name(count) + "->z"
	}
	return text + "relation " + name(count-1) + ":n\n" + whole, count
}

// P20.6: questions that ask for as many places as can be.
func TestWidest(t *testing.T) {
	text, count := widest()
	if count < 390 {
		t.Fatalf("only %d relations", count)
	}
	var row, star []string
	for i := range 300 {
		row = append(row, fmt.Sprintf("n:x%d#aa@n:x%d", i, i+1))
		star = append(star, fmt.Sprintf("n:x#ab@n:y%d", i))
	}
	for _, x := range []struct {
		texts []string
		first string
	}{{row, "n:x0"}, {star, "n:x"}} {
		s := madeOf(t, text, 3)
		rev := putMany(t, s, x.texts)
		k := asks(t, s, 1, x.first+"#z@n:x300", rev, check.MaxBudget)
		needed(t, s, "Check", k, 2000, Answer{Done: true, Rev: rev})
		k = asks(t, s, 1, x.first+"#z@n:x300", rev, 5)
		needed(t, s, "Check", k, 400, Answer{Done: true, Code: api.ErrBudget})
		k = asks(t, s, 1, strings.Replace(x.first, "x", "w", 1)+"#z@n:x300", rev, 1)
		needed(t, s, "Check", k, 400, Answer{Done: true, Rev: rev})
	}
}

// P20.6: each request that was there comes to something within 2000 rounds, however many they are, one by one or all at once.
func TestManyRequests(t *testing.T) {
	for _, once := range []bool{false, true} {
		s := made(t, 5)
		var texts, users []string
		for i := range 60 {
			users = append(users, fmt.Sprintf("user:u%02d", i))
			texts = append(texts, fmt.Sprintf("doc:a#viewer@group:g%d#member", i), fmt.Sprintf("group:g%d#member@%s", i, users[i]))
		}
		rev := putMany(t, s, texts)
		var list []int
		for i := range 80 {
			k, e := s.Expand(i%5, tup("doc:a#viewer@"), rev, check.MaxBudget)
			want(t, "Expand", e, api.OK)
			list = append(list, k)
		}
		last, e := s.Put(2, muts("-doc:a#viewer@group:g0#member"))
		want(t, "Put", e, api.OK)
		for i := 0; once && i < 400; i++ {
			for _, k := range list {
				asked(t, s, k)
			}
			s.Settle(1)
		}
		if !s.Settle(400) {
			t.Fatal("Settle")
		}
		is(t, "Put", asked(t, s, last), Answer{Done: true, Rev: rev + 1})
		for _, k := range list {
			a := asked(t, s, k)
			if !once {
				a = finished(t, s, k, 2000)
			}
			switch {
			case a.Done && a.Rev == rev && slices.Equal(a.Users, users):
			case a.Done && a.Rev == rev+1 && slices.Equal(a.Users, users[1:]):
			default:
				t.Fatalf("Expand: %v", a)
			}
		}
	}
}
