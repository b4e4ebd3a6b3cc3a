package authz

import (
	"fmt"
	"math"
	"slices"
	"strings"
	"testing"

	"porter/api"
	"porter/check"
	"porter/cluster"
	"porter/ring"
	"porter/schema"
)

// world is a schema with all that leads from one question to others.
const world = `namespace user
namespace group
relation member: user, group#member
namespace doc
relation parent: doc
relation banned: user
relation viewer: user, group#member = (this | parent->viewer) - banned
relation strict: user = this & viewer`

// made: a new service of that schema with much room.
func made(t *testing.T, nodes int) *Service {
	t.Helper()
	return madeOf(t, world, nodes)
}

func madeOf(t *testing.T, text string, nodes int) *Service {
	t.Helper()
	s, e, line := New(text, nodes, 8, api.MaxDisk)
	if e != api.OK || line != 0 {
		t.Fatalf("New: %v, line %d", e, line)
	}
	return s
}

// want: is it this error?
func want(t *testing.T, what string, e, want api.Errno) {
	t.Helper()
	if e != want {
		t.Errorf("%s: %v, want %v", what, e, want)
	}
}

// is: is it this answer?
func is(t *testing.T, what string, a, wanted Answer) {
	t.Helper()
	if fmt.Sprint(a) != fmt.Sprint(wanted) {
		t.Errorf("%s: %v, want %v", what, a, wanted)
	}
}

// tup: the tuple of a text such as doc:a#viewer@user:ann.
func tup(text string) api.Tuple {
	object, rest, _ := strings.Cut(text, "#")
	relation, user, _ := strings.Cut(rest, "@")
	return api.Tuple{Object: object, Relation: relation, User: user}
}

// muts: texts of tuples that are put, or taken away if a - stands ahead.
func muts(texts ...string) []api.Mutation {
	var list []api.Mutation
	for _, text := range texts {
		rest, gone := strings.CutPrefix(text, "-")
		list = append(list, api.Mutation{Delete: gone, Tuple: tup(rest)})
	}
	return list
}

// puts: the revision at which mutations are made and settled.
func puts(t *testing.T, s *Service, texts ...string) int64 {
	t.Helper()
	k, e := s.Put(0, muts(texts...))
	want(t, "Put", e, api.OK)
	a, _ := s.Finish(k, 400)
	if !a.Done || a.Code != api.OK || !s.Settle(400) {
		t.Fatalf("Put(%v): %v", texts, a)
	}
	return a.Rev
}

// asks: the number of a question whether there is what a text says.
func asks(t *testing.T, s *Service, at int, text string, token int64, budget int) int {
	t.Helper()
	k, e := s.Check(at, tup(text), token, budget)
	want(t, "Check", e, api.OK)
	return k
}

// asked: what a request has come to.
func asked(t *testing.T, s *Service, k int) Answer {
	t.Helper()
	a, e := s.Ask(k)
	want(t, fmt.Sprintf("Ask(%d)", k), e, api.OK)
	return a
}

// finished: what a request comes to.
func finished(t *testing.T, s *Service, k, rounds int) Answer {
	t.Helper()
	a, e := s.Finish(k, rounds)
	want(t, fmt.Sprintf("Finish(%d)", k), e, api.OK)
	return a
}

// owner: the node that serves an object.
func owner(t *testing.T, s *Service, object string) int {
	t.Helper()
	slot := ring.Slot(object)
	for at := range s.Nodes() {
		if s.Serves(at, slot) {
			return at
		}
	}
	t.Fatalf("nobody serves %s", object)
	return 0
}

// docOf: a document that a node serves; another one for each number.
func docOf(t *testing.T, s *Service, at, n int) string {
	t.Helper()
	for i := range 10000 {
		if o := fmt.Sprintf("doc:d%d", i); s.Serves(at, ring.Slot(o)) {
			if n--; n < 0 {
				return o
			}
		}
	}
	t.Fatalf("node %d serves no document", at)
	return ""
}

// P20.1
func TestNew(t *testing.T) {
	for _, x := range []struct {
		text                string
		nodes, points, room int
		want                api.Errno
		line                int
	}{
		{"namespace a\nrelation b: c", 0, 0, -1, api.ErrType, 1},
		{"namespace a\n\nrelatio b", 9, 8, 1000, api.ErrLine, 2},
		{"namespace a\nrelation b: a = b - b", 2, 8, 1000, api.ErrCycle, 1},
		{strings.Repeat("\n", schema.MaxText+1), 2, 8, 1000, api.ErrLong, 0},
		{world, 0, 8, 1000, api.ErrRange, 0}, {world, 9, 8, -1, api.ErrRange, 0}, {world, math.MinInt, 8, 1000, api.ErrRange, 0},
		{world, 2, 0, 1000, api.ErrRange, 0}, {world, 2, 65, 0, api.ErrRange, 0}, {world, 2, 8, api.MaxDisk + 1, api.ErrRange, 0},
		{world, 2, 8, 0, api.ErrFull, 0}, {world, 1, 1, 5, api.ErrFull, 0},
		{world, 1, 1, 100, api.OK, 0}, {"", 8, 64, 100, api.OK, 0}, {world, 3, 8, api.MaxDisk, api.OK, 0},
	} {
		s, e, line := New(x.text, x.nodes, x.points, x.room)
		if e != x.want || line != x.line || (s == nil) != (e != api.OK) {
			t.Errorf("New(%.20q, %d, %d, %d): %v, line %d, want %v, line %d", x.text, x.nodes, x.points, x.room, e, line, x.want, x.line)
		}
		if s == nil {
			continue
		}
		if s.Nodes() != x.nodes || !s.Up(x.nodes-1) || s.Len() != 0 || len(s.Commits()) != 0 {
			t.Errorf("New(.., %d, ..): %d nodes", x.nodes, s.Nodes())
		}
		if _, e := s.Ask(0); e != api.ErrMissing {
			t.Errorf("a new service has a request: %v", e)
		}
	}
	if MaxTries != 4 || CacheSize != 256 {
		t.Error("the limits")
	}
}

// P20.2
func TestPut(t *testing.T) {
	s := made(t, 2)
	ok, other := "doc:a#viewer@user:ann", "doc:a#banned@user:ann"
	many := make([]string, 61)
	for i := range many {
		many[i] = fmt.Sprintf("doc:a%d#viewer@user:ann", i)
	}
	free := api.Condition{Tuple: tup("what:ever#no@such:user")}
	for _, x := range []struct {
		at   int
		muts []string
		pre  []api.Condition
		want api.Errno
	}{
		{7, []string{ok, "doc:a#owner@doc:b", "doc:a#viewer@doc:b"}, nil, api.ErrRelation},
		{7, []string{ok, "doc:a#viewer@doc:b", "doc:a#owner@user:ann"}, nil, api.ErrType},
		{0, []string{"-doc:a#viewer@group:g", "doc#viewer@user:ann"}, nil, api.ErrType},
		{0, []string{"-doc#viewer@user:ann", "doc:a#viewer@group:g"}, nil, api.ErrForm},
		{0, []string{ok, ok, "file:a#viewer@user:ann"}, nil, api.ErrRelation},
		{0, []string{"doc:a#viewer@user:ann#member"}, nil, api.ErrType},
		{2, []string{ok, ok}, nil, api.ErrRange}, {-1, []string{ok}, nil, api.ErrRange}, {math.MaxInt, nil, nil, api.ErrRange},
		{0, []string{ok, other, ok}, []api.Condition{{}}, api.ErrTwice},
		{0, many, []api.Condition{{}}, api.ErrForm},
		{0, many, nil, api.ErrLong},
		{0, nil, nil, api.ErrRange},
	} {
		if k, e := s.Put(x.at, muts(x.muts...), x.pre...); e != x.want || k != 0 {
			t.Errorf("Put(%d, %v): %d, %v, want %v", x.at, x.muts, k, e, x.want)
		}
	}
	want(t, "Crash", s.Crash(1, 0), api.OK)
	_, e := s.Put(1, muts(ok, ok))
	want(t, "Put at a node that is down", e, api.ErrDown)
	want(t, "Restart", s.Restart(1), api.OK)
	// None of them has a number. Conditions may be what the schema doesn't allow.
	var list []int
	for i, pre := range [][]api.Condition{nil, {free}, {{Absent: true, Tuple: free.Tuple}}} {
		s.Snapshot(0)
		k, e := s.Put(i%2, muts(many[i]), pre...)
		if e != api.OK || k != 2*i || s.Call(k) != 3*i+1 {
			t.Errorf("Put: %d, %v; call %d", k, e, s.Call(k))
		}
		list = append(list, k)
		if k, e := s.Read(0, tup(ok), 0); e != api.OK || k != 2*i+1 || s.Call(k) != -1 {
			t.Errorf("Read: %d, %v; call %d", k, e, s.Call(k))
		}
	}
	for _, k := range []int{math.MinInt, -1, 6, math.MaxInt} {
		if s.Call(k) != -1 {
			t.Errorf("Call(%d): %d", k, s.Call(k))
		}
	}
	k, e := s.Put(1, nil, api.Condition{Absent: true, Tuple: tup(other)})
	want(t, "Put of a condition alone", e, api.OK)
	if a := finished(t, s, k, 400); !a.Done || a.Code != api.OK {
		t.Errorf("Put of a condition alone: %v", a)
	}
	for i, k := range list {
		a := finished(t, s, k, 400)
		if i == 1 {
			is(t, "Put whose condition doesn't hold", a, Answer{Done: true, Code: api.ErrCondition})
			continue
		}
		found := slices.ContainsFunc(s.Commits(), func(x cluster.Commit) bool { return x.Call == s.Call(k) && x.Rev == a.Rev })
		if !a.Done || a.Code != api.OK || !found {
			t.Errorf("Put %d: %v, commits %v", k, a, s.Commits())
		}
	}
}

// P20.3
func TestFaults(t *testing.T) {
	s := made(t, 3)
	want(t, "Crash", s.Crash(1, 0), api.OK)
	for _, x := range []struct {
		at     int
		text   string
		budget int
		// The errors of Check, Expand and Read.
		check, expand, read api.Errno
	}{
		{9, "doc#owner@user", 0, api.ErrRange, api.ErrRange, api.ErrForm},
		{9, "doc#owner@user", check.MaxBudget + 1, api.ErrRange, api.ErrRange, api.ErrForm},
		{9, "doc:A#owner@user", math.MinInt, api.ErrRange, api.ErrRange, api.ErrName},
		{1, "doc#owner@user", 1, api.ErrForm, api.ErrForm, api.ErrForm},
		{1, ":a#viewer@user:ann", math.MaxInt, api.ErrRange, api.ErrRange, api.ErrName},
		{1, "doc:#owner@user", 9, api.ErrName, api.ErrName, api.ErrName},
		{1, "doc:a#owner@user", 9, api.ErrRelation, api.ErrRelation, api.ErrRelation},
		{1, "group:a#viewer@user", 9, api.ErrRelation, api.ErrRelation, api.ErrRelation},
		{1, "file:a#viewer@user", 9, api.ErrRelation, api.ErrRelation, api.ErrRelation},
		{1, "doc:a#@user:ann", 9, api.ErrRelation, api.ErrRelation, api.ErrRelation},
		{1, "doc:a#viewer@user", 9, api.ErrForm, api.ErrDown, api.ErrDown},
		{9, "doc:a#viewer@user:ann#x", 9, api.ErrName, api.ErrRange, api.ErrRange},
		{1, "doc:a#viewer@", 9, api.ErrForm, api.ErrDown, api.ErrDown},
		{1, "doc:a#viewer@user:ann", 0, api.ErrRange, api.ErrRange, api.ErrDown},
		{3, "doc:a#viewer@user:ann", 1, api.ErrRange, api.ErrRange, api.ErrRange},
		{-1, "doc:a#viewer@user:ann", check.MaxBudget, api.ErrRange, api.ErrRange, api.ErrRange},
		{math.MinInt, "doc:a#viewer@user:ann", 9, api.ErrRange, api.ErrRange, api.ErrRange},
		{1, "doc:a#viewer@user:ann", 9, api.ErrDown, api.ErrDown, api.ErrDown},
	} {
		k, e := s.Check(x.at, tup(x.text), 0, x.budget)
		want(t, fmt.Sprintf("Check(%d, %s, 0, %d)", x.at, x.text, x.budget), e, x.check)
		l, e := s.Expand(x.at, tup(x.text), 0, x.budget)
		want(t, fmt.Sprintf("Expand(%d, %s, 0, %d)", x.at, x.text, x.budget), e, x.expand)
		m, e := s.Read(x.at, tup(x.text), 0)
		want(t, fmt.Sprintf("Read(%d, %s, 0)", x.at, x.text), e, x.read)
		if k != 0 || l != 0 || m != 0 {
			t.Errorf("%s: numbers %d, %d, %d", x.text, k, l, m)
		}
	}
	// What was refused has no number, neither here nor with the cluster; wrong users are no matter of Expand and Read.
	for i, budget := range []int{1, check.MaxBudget} {
		if k, e := s.Check(0, tup("doc:a#viewer@what:ever"), math.MinInt64, budget); k != 3*i || e != api.OK {
			t.Errorf("Check: %d, %v", k, e)
		}
		if k, e := s.Expand(2, tup("group:a#member@"), math.MaxInt64, budget); k != 3*i+1 || e != api.OK {
			t.Errorf("Expand: %d, %v", k, e)
		}
		if k, e := s.Read(0, tup("doc:a#banned@\xff"), 0); k != 3*i+2 || e != api.OK {
			t.Errorf("Read: %d, %v", k, e)
		}
	}
	for k := range 6 {
		is(t, "a question that wasn't pursued", asked(t, s, k), Answer{})
	}
}

// P20.4
func TestAsk(t *testing.T) {
	s := made(t, 3)
	rev := puts(t, s, "doc:a#viewer@group:g#member", "group:g#member@user:ann")
	for _, k := range []int{math.MinInt, -1, 1, math.MaxInt} {
		if a, e := s.Ask(k); e != api.ErrMissing || a.Done {
			t.Errorf("Ask(%d): %v, %v", k, a, e)
		}
		if a, e := s.Finish(k, 5); e != api.ErrMissing || a.Done {
			t.Errorf("Finish(%d): %v, %v", k, a, e)
		}
	}
	// Without Ask it doesn't go on, and without Tick nothing is sent.
	k := asks(t, s, 1, "doc:a#viewer@user:ann", rev, 9)
	for range 2 {
		if !s.Settle(400) {
			t.Fatal("Settle")
		}
		for range 10 {
			for at := range s.Nodes() {
				s.Tick(at)
			}
			for s.Len() > 0 {
				s.Deliver(0)
			}
		}
		is(t, "a question", asked(t, s, k), Answer{})
		for range 5 {
			is(t, "a question", asked(t, s, k), Answer{})
		}
		if s.Len() != 0 {
			t.Errorf("%d packets without a Tick", s.Len())
		}
		if len(s.Commits()) != 1 {
			t.Errorf("commits: %v", s.Commits())
		}
		if s.Settle(0) {
			t.Error("nothing is in the node's hands")
		}
	}
	if !s.Settle(400) {
		t.Fatal("Settle")
	}
	// What it has come to stays so.
	is(t, "a question", asked(t, s, k), Answer{Done: true, Rev: rev, Allow: true})
	puts(t, s, "doc:a#banned@user:ann")
	want(t, "Crash", s.Crash(1, 0), api.OK)
	is(t, "a question", asked(t, s, k), Answer{Done: true, Rev: rev, Allow: true})
	if s.Len() != 0 || s.Up(1) {
		t.Error("a question that is answered goes on")
	}
}

// P20.5: a Put comes to what its call does.
func TestPutComes(t *testing.T) {
	s := made(t, 3)
	k, e := s.Put(1, muts("doc:a#viewer@user:ann"))
	want(t, "Put", e, api.OK)
	is(t, "a Put", asked(t, s, k), Answer{})
	if !s.Settle(400) {
		t.Fatal("Settle")
	}
	is(t, "a Put", asked(t, s, k), Answer{Done: true, Rev: 1})
	l, _ := s.Put(2, muts("doc:b#viewer@user:ann"), api.Condition{Absent: true, Tuple: tup("doc:a#viewer@user:ann")})
	is(t, "a Put whose condition doesn't hold", finished(t, s, l, 400), Answer{Done: true, Code: api.ErrCondition})
	m, _ := s.Put(2, muts("doc:b#viewer@user:ann"))
	want(t, "Tick", s.Tick(2), api.OK)
	want(t, "Crash", s.Crash(2, 0), api.OK)
	is(t, "a Put that is lost", asked(t, s, m), Answer{Done: true, Code: api.ErrDown})
	is(t, "a Put that was done ahead", asked(t, s, k), Answer{Done: true, Rev: 1})
	n, _ := s.Put(1, muts("doc:c#viewer@user:ann"))
	for range 200 {
		s.Tick(1)
	}
	a := asked(t, s, n)
	o, _ := s.Result(s.Call(n))
	if !a.Done || o.State != cluster.Failed || o.Code == api.OK {
		t.Errorf("a Put of which nobody hears: %v, its call %v", a, o)
	}
	is(t, "a Put of which nobody hears", a, Answer{Done: true, Code: o.Code})
}

// P20.5: answers are those of layer 8 at a closed revision.
func TestAnswers(t *testing.T) {
	s := made(t, 3)
	puts(t, s, "doc:a#viewer@group:g#member", "group:g#member@group:h#member", "group:h#member@user:ann", "group:g#member@user:bob",
		"doc:b#parent@doc:a", "doc:b#viewer@user:cid", "doc:b#banned@user:bob", "doc:b#strict@user:ann", "doc:b#strict@user:bob")
	rev := puts(t, s, "-group:h#member@user:ann", "group:h#member@user:dan")
	at := 0
	for _, x := range []struct {
		text          string
		budget        int
		allow         bool
		code          api.Errno
		expand, reads string
	}{
		{"doc:a#viewer@user:dan", 9, true, api.OK, "[user:bob user:dan]", "[group:g#member]"},
		{"doc:a#viewer@user:ann", 9, false, api.OK, "[user:bob user:dan]", "[group:g#member]"},
		{"doc:a#viewer@group:g", 9, false, api.OK, "[user:bob user:dan]", "[group:g#member]"},
		{"group:h#member@user:dan", 1, true, api.OK, "[user:dan]", "[user:dan]"},
		{"doc:a#viewer@user:dan", 4, true, api.OK, "[user:bob user:dan]", "[group:g#member]"},
		{"doc:a#viewer@user:dan", 3, false, api.ErrBudget, "[]", "[group:g#member]"},
		{"doc:b#viewer@user:dan", 6, true, api.OK, "[user:cid user:dan]", "[user:cid]"},
		{"doc:b#viewer@user:dan", 5, false, api.ErrBudget, "[]", "[user:cid]"},
		{"doc:b#viewer@user:bob", 1024, false, api.OK, "[user:cid user:dan]", "[user:cid]"},
		{"doc:b#strict@user:ann", 99, false, api.OK, "[]", "[user:ann user:bob]"},
		{"doc:none#viewer@user:ann", 2, false, api.OK, "[]", "[]"},
		{"doc:b#parent@doc:a", 1, true, api.OK, "[doc:a]", "[doc:a]"},
	} {
		// Once more at the same node, where much of it is known by then.
		for range 2 {
			checked, expanded := Answer{Done: true, Rev: rev, Allow: x.allow}, x.expand
			if x.code != api.OK {
				checked = Answer{Done: true, Code: x.code}
			}
			is(t, "Check "+x.text, finished(t, s, asks(t, s, at, x.text, rev, x.budget), 400), checked)
			k, e := s.Expand(at, tup(x.text), rev, x.budget)
			want(t, "Expand", e, api.OK)
			if a := finished(t, s, k, 400); fmt.Sprint(a.Users) != expanded || a.Code != x.code || a.Rev != checked.Rev || a.Allow || !a.Done {
				t.Errorf("Expand %s, %d: %v", x.text, x.budget, a)
			}
			k, e = s.Read(at, tup(x.text), rev)
			want(t, "Read", e, api.OK)
			if a := finished(t, s, k, 400); fmt.Sprint(a.Users) != x.reads || a.Code != api.OK || a.Rev != rev || a.Allow || !a.Done {
				t.Errorf("Read %s: %v", x.text, a)
			}
		}
		at = (at + 1) % 3
	}
}

// P20.5: a question is answered at one revision, whatever is written meanwhile.
func TestOneRevision(t *testing.T) {
	s := made(t, 3)
	rev := puts(t, s, "doc:a#viewer@group:g#member", "group:g#member@user:ann")
	at := 1
	k := asks(t, s, at, "doc:a#viewer@user:ann", rev, 9)
	l, _ := s.Expand(at, tup("group:g#member@"), rev, 9)
	finished(t, s, l, 400) // now the node knows the group's members
	puts(t, s, "-group:g#member@user:ann")
	last := puts(t, s, "doc:a#viewer@user:bob", "group:g#member@user:cid")
	is(t, "Check of what was there", finished(t, s, k, 400), Answer{Done: true, Rev: rev, Allow: true})
	for at := range 3 {
		for _, token := range []int64{math.MinInt64, 0, rev, last} {
			k := asks(t, s, at, "doc:a#viewer@user:ann", token, 9)
			is(t, "Check of what is gone", finished(t, s, k, 400), Answer{Done: true, Rev: last})
			k, _ = s.Expand(at, tup("doc:a#viewer@"), token, 9)
			is(t, "Expand", finished(t, s, k, 400), Answer{Done: true, Rev: last, Users: []string{"user:bob", "user:cid"}})
		}
	}
}

// P20.5: ErrUnavailable, if no closed revision is told that is at least the token.
func TestToken(t *testing.T) {
	s := made(t, 3)
	for at := range 3 {
		for _, token := range []int64{1, 2, math.MaxInt64} {
			is(t, "Check above the last", finished(t, s, asks(t, s, at, "doc:a#viewer@user:ann", token, 9), 400), Answer{Done: true, Code: api.ErrUnavailable})
		}
		is(t, "Check of nothing", finished(t, s, asks(t, s, at, "doc:a#viewer@user:ann", 0, 9), 400), Answer{Done: true})
	}
	// A revision that is given out, but open, isn't told: node 2 goes down before it hears of it.
	doc := docOf(t, s, 2, 0)
	k, _ := s.Put(1, muts(doc+"#viewer@user:ann"))
	for !asked(t, s, k).Done {
		if s.Len() == 0 {
			s.Tick(0)
			s.Tick(1)
		}
		s.Deliver(0)
	}
	want(t, "Crash", s.Crash(2, api.MaxDisk), api.OK)
	is(t, "Put", asked(t, s, k), Answer{Done: true, Rev: 1})
	l := asks(t, s, 0, doc+"#viewer@user:ann", 1, 9)
	rounds(s, l, 300)
	if closed, last, _ := s.Closed(); closed != 0 || last != 1 {
		t.Fatalf("closed %d of %d", closed, last)
	}
	is(t, "Check above the closed one", asked(t, s, l), Answer{Done: true, Code: api.ErrUnavailable})
	want(t, "Restart", s.Restart(2), api.OK)
	if !s.Settle(400) {
		t.Fatal("Settle")
	}
	is(t, "Check", finished(t, s, asks(t, s, 0, doc+"#viewer@user:ann", 1, 9), 400), Answer{Done: true, Rev: 1, Allow: true})
}

// P20.5: a Put's revision is a token for what comes behind it, as soon as it is known.
func TestReadBehindPut(t *testing.T) {
	for nodes := 1; nodes <= 5; nodes++ {
		s := made(t, nodes)
		for i := range 20 {
			text := fmt.Sprintf("doc:a%d#viewer@user:ann", i)
			k, _ := s.Put(i%nodes, muts(text))
			a := finished(t, s, k, 400)
			l := asks(t, s, i*7%nodes, text, a.Rev, 9)
			is(t, "Check right behind a Put", finished(t, s, l, 400), Answer{Done: true, Rev: a.Rev, Allow: true})
		}
	}
}

// rounds: rounds in which some nodes aren't heard, and a request is asked for.
func rounds(s *Service, k, count int, deaf ...int) {
	for range count {
		s.Ask(k)
		for at := range s.Nodes() {
			if s.Up(at) && !slices.Contains(deaf, at) {
				s.Tick(at)
			}
		}
		for s.Len() > 0 {
			s.Deliver(0)
		}
	}
}

// P20.5: ErrDown, if the node crashes while the question waits, at whichever step, and whether it is up again when it is asked for or not.
func TestDown(t *testing.T) {
	for step := range 12 {
		for _, again := range []bool{false, true} {
			s := made(t, 3)
			doc := docOf(t, s, 1, 0)
			rev := puts(t, s, doc+"#viewer@group:g#member", "group:g#member@user:ann")
			k := asks(t, s, 0, doc+"#viewer@user:ann", rev, 9)
			other := asks(t, s, 2, doc+"#viewer@user:ann", rev, 9)
			for i := range step {
				switch i % 3 {
				case 0:
					s.Ask(k)
				case 1:
					s.Tick(0)
				case 2:
					for s.Len() > 0 {
						s.Deliver(0)
					}
				}
			}
			wanted := Answer{Done: true, Code: api.ErrDown}
			if step > 9 { // it was answered by then
				wanted = Answer{Done: true, Rev: rev, Allow: true}
				is(t, "Check", asked(t, s, k), wanted)
			}
			want(t, "Crash", s.Crash(0, 0), api.OK)
			if again {
				want(t, "Restart", s.Restart(0), api.OK)
			}
			is(t, fmt.Sprintf("Check, crashed behind step %d, up again %v", step, again), asked(t, s, k), wanted)
			if !s.Settle(400) {
				t.Fatal("Settle")
			}
			is(t, "Check", asked(t, s, k), wanted)
			is(t, "Check at another node", finished(t, s, other, 400), Answer{Done: true, Rev: rev, Allow: true})
			is(t, "Check at the node that was down", finished(t, s, asks(t, s, 0, doc+"#viewer@user:ann", rev, 9), 400), Answer{Done: true, Rev: rev, Allow: true})
		}
	}
}

// P20.5: ErrDown, if a crash isn't told by the service's own call but by the cluster's.
func TestDownBelow(t *testing.T) {
	s := made(t, 2)
	l := asks(t, s, 1, "doc:a#viewer@user:ann", 0, 9)
	rounds(s, l, 1)
	asked(t, s, l)
	k := asks(t, s, 1, "doc:a#viewer@user:ann", 0, 9)
	want(t, "Crash", s.Cluster.Crash(1, 0), api.OK)
	want(t, "Restart", s.Restart(1), api.OK)
	is(t, "Check that waits for a revision", asked(t, s, k), Answer{Done: true, Code: api.ErrDown})
	is(t, "Check that waits for users", asked(t, s, l), Answer{Done: true, Code: api.ErrDown})
	m := asks(t, s, 1, "doc:a#viewer@user:ann", 0, 9)
	want(t, "Crash", s.Cluster.Crash(1, 0), api.OK)
	is(t, "Check at a node that is down", asked(t, s, m), Answer{Done: true, Code: api.ErrDown})
	// All that this one needs is told or kept by then, but it wasn't answered.
	want(t, "Restart", s.Restart(1), api.OK)
	finished(t, s, asks(t, s, 1, "doc:a#banned@user:ann", 0, 9), 400)
	n := asks(t, s, 1, "doc:a#banned@user:ann", 0, 9)
	if !s.Settle(400) {
		t.Fatal("Settle")
	}
	want(t, "Crash", s.Cluster.Crash(1, 0), api.OK)
	is(t, "Check of what was told to a node that is down", asked(t, s, n), Answer{Done: true, Code: api.ErrDown})
	want(t, "Crash", s.Crash(1, 0), api.ErrDown)
	want(t, "Crash", s.Crash(2, 0), api.ErrRange)
	want(t, "Crash", s.Crash(-1, 0), api.ErrRange)
}

// P20.5: an error, if the node isn't told what it needs; ErrUnavailable, if it isn't told a revision.
func TestNotTold(t *testing.T) {
	s := made(t, 3)
	doc := docOf(t, s, 2, 0)
	rev := puts(t, s, doc+"#viewer@user:ann")
	k := asks(t, s, 1, doc+"#viewer@user:ann", 0, 9)
	want(t, "Crash", s.Crash(0, 0), api.OK)
	rounds(s, k, 400)
	is(t, "Check without a revision", asked(t, s, k), Answer{Done: true, Code: api.ErrUnavailable})
	want(t, "Restart", s.Restart(0), api.OK)
	l := asks(t, s, 1, doc+"#viewer@user:ann", 0, 9)
	want(t, "Crash", s.Crash(2, 0), api.OK)
	rounds(s, l, 400)
	if a := asked(t, s, l); !a.Done || a.Code == api.OK || a.Code == api.ErrDown || a.Rev != 0 || a.Allow {
		t.Errorf("Check without users: %v", a)
	}
	want(t, "Restart", s.Restart(2), api.OK)
	if !s.Settle(400) {
		t.Fatal("Settle")
	}
	is(t, "Check", finished(t, s, asks(t, s, 1, doc+"#viewer@user:ann", 0, 9), 400), Answer{Done: true, Rev: rev, Allow: true})
}

// P20.1 and P20.5: what wasn't told is asked for again, four times; it changes no answer.
func TestTries(t *testing.T) {
	for _, x := range []struct {
		deaf  int // this node hears nothing for so many ticks, in which calls are given up
		waits int // so many calls
		told  bool
	}{{0, 1, true}, {0, 4, true}, {0, 5, false}, {2, 1, true}, {2, 4, true}, {2, 5, false}} {
		s := made(t, 3)
		doc := docOf(t, s, 2, 0)
		rev := puts(t, s, doc+"#viewer@user:ann")
		k := asks(t, s, 1, doc+"#viewer@user:ann", 0, 9)
		if x.deaf == 2 {
			rounds(s, k, 1)
			asked(t, s, k)
		}
		// A call that nobody hears of is given up behind some ticks: it is asked for again then.
		for range x.waits {
			for range 60 {
				s.Tick(1)
				for s.Len() > 0 {
					s.Drop(0)
				}
			}
			asked(t, s, k)
		}
		a := finished(t, s, k, 400)
		if x.told {
			is(t, fmt.Sprintf("Check, %d times in vain at node %d", x.waits, x.deaf), a, Answer{Done: true, Rev: rev, Allow: true})
		} else if !a.Done || a.Code != api.ErrUnavailable {
			t.Errorf("Check, %d times in vain at node %d: %v", x.waits, x.deaf, a)
		}
	}
}

// P20.5: no move changes an answer, neither one that is made nor one that is under way.
func TestMoves(t *testing.T) {
	s := made(t, 4)
	rev := puts(t, s, "doc:a#viewer@group:g#member", "group:g#member@user:ann", "doc:b#parent@doc:a")
	for i := range 40 {
		object := []string{"doc:a", "group:g", "doc:b"}[i%3]
		from := owner(t, s, object)
		k, _ := s.Expand(i%4, tup("doc:b#viewer@"), rev, 9)
		for range i % 7 {
			rounds(s, k, 1)
		}
		want(t, "Move", s.Move(ring.Slot(object), (from+1+i%3)%4), api.OK)
		is(t, "Expand while a slot moves", finished(t, s, k, 400), Answer{Done: true, Rev: rev, Users: []string{"user:ann"}})
		if !s.Settle(400) {
			t.Fatal("Settle")
		}
		if owner(t, s, object) == from {
			t.Errorf("%s didn't move", object)
		}
		k, _ = s.Expand(i%4, tup("doc:b#viewer@"), rev, 9)
		is(t, "Expand behind a move", finished(t, s, k, 400), Answer{Done: true, Rev: rev, Users: []string{"user:ann"}})
	}
}

// P20.6: Finish asks, and then once for each round.
func TestFinish(t *testing.T) {
	s := made(t, 2)
	rev := puts(t, s, "doc:a#viewer@user:ann")
	// How many rounds a question takes at whichever node, so many are needed, and not one less.
	for at := range 2 {
		k := asks(t, s, at, "doc:a#viewer@user:ann", rev, 9)
		for _, none := range []int{math.MinInt, -1, 0} {
			is(t, "Finish without rounds", finished(t, s, k, none), Answer{})
		}
		if s.Len() != 0 {
			t.Error("Finish without rounds sends")
		}
		needed := 0
		for ; !finished(t, s, k, 1).Done; needed++ {
			if needed > 20 {
				t.Fatal("Finish(.., 1) again and again comes to nothing")
			}
		}
		l := asks(t, s, at, "doc:b#viewer@user:ann", rev, 9)
		is(t, "Finish", finished(t, s, l, needed), Answer{})
		is(t, "Finish", finished(t, s, l, 1), Answer{Done: true, Rev: rev})
		is(t, "Finish of what is done", finished(t, s, l, 0), Answer{Done: true, Rev: rev})
		m := asks(t, s, at, "doc:a#banned@user:ann", rev, 9)
		n, _ := s.Put(at, muts("doc:a#viewer@user:bob"))
		is(t, "Finish", finished(t, s, m, math.MaxInt), Answer{Done: true, Rev: rev})
		rev = finished(t, s, n, math.MaxInt).Rev
		if !s.Settle(400) {
			t.Fatal("Settle")
		}
	}
	// A node that is down is started; a question of another node waits for it no longer than that.
	k := asks(t, s, 0, "doc:a#viewer@user:ann", rev, 9)
	want(t, "Crash", s.Crash(1, 0), api.OK)
	is(t, "Finish", finished(t, s, k, 400), Answer{Done: true, Rev: rev, Allow: true})
	if !s.Up(1) {
		t.Error("the node isn't up")
	}
}

// P1 and P20.6: Finish ends at any number of rounds, where a node can't be started any more too.
func TestFinishEnds(t *testing.T) {
	for _, full := range []int{0, 1} {
		s, e, _ := New(world, 2, 8, 700)
		want(t, "New", e, api.OK)
		for s.Up(full) {
			s.Crash(full, 0)
			s.Restart(full)
		}
		want(t, "Restart", s.Restart(full), api.ErrFull)
		k := asks(t, s, 1-full, "doc:a#viewer@user:ann", 0, 9)
		is(t, "Finish", finished(t, s, k, math.MaxInt), Answer{})
		l, e := s.Put(1-full, muts("doc:a#viewer@user:ann"))
		want(t, "Put", e, api.OK)
		is(t, "Finish", finished(t, s, l, math.MaxInt), Answer{})
	}
	// Disks that are full, nodes that are up.
	s, _, _ := New(world, 3, 8, 300)
	for i := range 30 {
		k, _ := s.Put(i%3, muts(fmt.Sprintf("doc:a%d#viewer@user:ann", i)))
		l := asks(t, s, i%3, "doc:a0#viewer@user:ann", 0, 9)
		if a := finished(t, s, k, math.MaxInt); !a.Done {
			t.Errorf("Put: %v", a)
		}
		if a := finished(t, s, l, math.MaxInt); !a.Done {
			t.Errorf("Check: %v", a)
		}
	}
}

// P2: what is handed in is neither changed nor kept, what is answered is new memory.
func TestMemory(t *testing.T) {
	s := made(t, 2)
	list, pre := make([]api.Mutation, 2, 9), make([]api.Condition, 1, 9)
	list[0], list[1] = muts("doc:a#viewer@user:ann")[0], muts("doc:a#viewer@user:bob")[0]
	pre[0] = api.Condition{Absent: true, Tuple: tup("doc:a#viewer@user:cid")}
	k, e := s.Put(0, list, pre...)
	want(t, "Put", e, api.OK)
	list[0], pre[0] = api.Mutation{}, api.Condition{}
	for i := range list[2:9] {
		if list[2:9][i] != (api.Mutation{}) || pre[:9][2+i] != (api.Condition{}) {
			t.Error("spare room is written to")
		}
	}
	is(t, "Put", finished(t, s, k, 400), Answer{Done: true, Rev: 1})
	if !s.Settle(400) {
		t.Fatal("Settle")
	}
	users := []string{"user:ann", "user:bob"}
	l, _ := s.Expand(0, tup("doc:a#viewer@"), 1, 9)
	m, _ := s.Read(0, tup("doc:a#viewer@"), 1)
	for _, k := range []int{l, m, l, m} {
		a := finished(t, s, k, 400)
		is(t, "a question", a, Answer{Done: true, Rev: 1, Users: users})
		a.Users[0] = "x"
		if rest := a.Users[2:cap(a.Users)]; len(rest) > 0 {
			rest[0] = "x"
		}
		b := asked(t, s, k)
		is(t, "a question", b, Answer{Done: true, Rev: 1, Users: users})
		b.Users[1] = "y"
	}
	n, _ := s.Read(0, tup("doc:a#viewer@"), 1)
	is(t, "what the node has kept", finished(t, s, n, 400), Answer{Done: true, Rev: 1, Users: users})
}

// Example of the whole: 9 and 10.
func TestExample(t *testing.T) {
	s := made(t, 2)
	k, e := s.Put(1, muts("doc:a#viewer@group:g#member", "group:g#member@user:ann"))
	want(t, "Put", e, api.OK)
	if !s.Settle(400) {
		t.Fatal("Settle")
	}
	is(t, "Put", asked(t, s, k), Answer{Done: true, Rev: 1})
	for at := range 2 {
		is(t, "Check", finished(t, s, asks(t, s, at, "doc:a#viewer@user:ann", 1, 2), 400), Answer{Done: true, Code: api.ErrBudget})
		is(t, "Check", finished(t, s, asks(t, s, at, "doc:a#viewer@user:ann", 1, 3), 400), Answer{Done: true, Rev: 1, Allow: true})
		is(t, "Check", finished(t, s, asks(t, s, at, "doc:a#viewer@user:bob", 1, 3), 400), Answer{Done: true, Rev: 1})
	}
}
