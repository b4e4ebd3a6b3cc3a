package check

import (
	"math/rand"
	"slices"
	"strings"
	"testing"

	"porter/api"
	"porter/schema"
	"porter/tuple"
)

// tuples are a source; of the places in failing it tells their errors.
type tuples struct {
	list    []api.Tuple
	failing map[place]api.Errno
}

// place is what a source is asked for.
type place struct{ object, relation string }

func (s *tuples) Users(object, relation string) ([]string, api.Errno) {
	if e := s.failing[place{object, relation}]; e != api.OK {
		return []string{"user:none"}, e
	}
	var users []string
	for _, x := range s.list {
		if x.Object == object && x.Relation == relation {
			users = append(users, x.User)
		}
	}
	slices.Sort(users)
	return slices.Compact(users), api.OK
}

// model is Expand as P8.1 to P8.4 tell it, told once more in a plainer way.
type model struct {
	x      *schema.Schema
	src    *tuples
	budget int
	list   []place
	fixed  map[place][]string // what is taken to be the answers, where they are taken away
}

// expr: how the relation of a question follows; is it one?
func (m *model) expr(q place) (schema.Expr, bool) {
	space, _, _ := strings.Cut(q.object, ":")
	r, e := m.x.Find(space, q.relation)
	return r.Expr, e == api.OK
}

// asks: for which questions an expression of a question asks, from the left; and the source's error, where it has one.
func (m *model) asks(q place, x schema.Expr) (list []place, e api.Errno) {
	switch {
	case len(x.Args) == 2:
		left, e := m.asks(q, x.Args[0])
		if e != api.OK {
			return left, e
		}
		right, e := m.asks(q, x.Args[1])
		return append(left, right...), e
	case x.Op == "name":
		return []place{{q.object, x.Name}}, api.OK
	case x.Op == "via":
		users, e := m.src.Users(q.object, x.Via)
		if e != api.OK {
			return nil, e
		}
		for _, user := range users {
			to := place{user, x.Name}
			if _, found := m.expr(to); found && !strings.Contains(user, "#") {
				list = append(list, to)
			}
		}
		return list, api.OK
	}
	users, e := m.src.Users(q.object, q.relation)
	if e != api.OK {
		return nil, e
	}
	for _, user := range users {
		object, relation, pair := strings.Cut(user, "#")
		if _, found := m.expr(place{object, relation}); pair && found {
			list = append(list, place{object, relation})
		}
	}
	return list, api.OK
}

// fill: all questions, listed.
func (m *model) fill(first place) api.Errno {
	m.list = []place{first}
	for i := 0; i < len(m.list); i++ {
		x, _ := m.expr(m.list[i])
		asked, e := m.asks(m.list[i], x)
		for _, to := range asked {
			if slices.Contains(m.list, to) {
				continue
			}
			if len(m.list) == m.budget {
				return api.ErrBudget
			}
			m.list = append(m.list, to)
		}
		if e != api.OK {
			return e
		}
	}
	return api.OK
}

// eval: what an expression of a question comes to, if these are the answers.
func (m *model) eval(q place, x schema.Expr, answers map[place][]string) []string {
	var out []string
	if len(x.Args) == 2 {
		left, right := m.eval(q, x.Args[0], answers), []string(nil)
		if x.Op == "-" {
			right = m.eval(q, x.Args[1], m.fixed)
		} else {
			right = m.eval(q, x.Args[1], answers)
		}
		for _, object := range left {
			if x.Op == "|" || slices.Contains(right, object) == (x.Op == "&") {
				out = append(out, object)
			}
		}
		if x.Op == "|" {
			out = append(out, right...)
		}
		return out
	}
	asked, _ := m.asks(q, x)
	for _, to := range asked {
		out = append(out, answers[to]...)
	}
	if x.Op == "this" {
		users, _ := m.src.Users(q.object, q.relation)
		out = append(out, slices.DeleteFunc(users, func(user string) bool { return strings.Contains(user, "#") })...)
	}
	return out
}

// least: the least answers that fit, where what is taken away is fixed.
func (m *model) least() map[place][]string {
	answers := map[place][]string{}
	for grown := true; grown; {
		grown = false
		for _, q := range m.list {
			x, _ := m.expr(q)
			out := m.eval(q, x, answers)
			slices.Sort(out)
			out = slices.Compact(out)
			grown = grown || len(out) > len(answers[q])
			answers[q] = out
		}
	}
	return answers
}

// expand: the first question's answer. The answers that take nothing away are right at first, then those that take away only such ones, and so on, until nothing changes.
func (m *model) expand(object, relation string) ([]string, api.Errno) {
	first := place{object, relation}
	if e := m.fill(first); e != api.OK {
		return nil, e
	}
	for {
		answers := m.least()
		same := true
		for _, q := range m.list {
			same = same && slices.Equal(answers[q], m.fixed[q])
		}
		if same {
			return answers[first], api.OK
		}
		m.fixed = answers
	}
}

// randomExpr: the text of an expression of some relations.
func randomExpr(random *rand.Rand, names []string, depth int) string {
	name := func() string { return names[random.Intn(len(names))] }
	if depth > 0 && random.Intn(3) > 0 {
		sign := []string{" | ", " | ", " & ", " - "}[random.Intn(4)]
		return "(" + randomExpr(random, names, depth-1) + sign + randomExpr(random, names, depth-1) + ")"
	}
	switch random.Intn(5) {
	case 0, 1:
		return "this"
	case 2, 3:
		return name()
	}
	return name() + "->" + name()
}

// randomSchema: one that is right, and its text.
func randomSchema(random *rand.Rand) (*schema.Schema, string) {
	for {
		var text strings.Builder
		text.WriteString("namespace user\n")
		spaces, names := []string{"group", "doc"}, []string{"a", "b", "c", "d"}
		types := []string{"user", "group", "doc", "group#a", "group#b", "group#c", "doc#a", "doc#b", "doc#d"}
		for _, space := range spaces {
			text.WriteString("namespace " + space + "\n")
			for _, name := range names[:3+random.Intn(2)] {
				text.WriteString("relation " + name + ": user")
				for range random.Intn(4) {
					text.WriteString(", " + types[random.Intn(len(types))])
				}
				text.WriteString(" = " + randomExpr(random, names, random.Intn(4)) + "\n")
			}
		}
		if x, e, _ := schema.Parse(text.String()); e == api.OK {
			return x, text.String()
		}
	}
}

// randomTuples: some that a schema allows.
func randomTuples(random *rand.Rand, x *schema.Schema, many int) []api.Tuple {
	var list []api.Tuple
	spaces, ids, relations := []string{"user", "group", "doc"}, []string{"x", "y", "z"}, []string{"a", "b", "c", "d"}
	object := func() string { return spaces[random.Intn(3)] + ":" + ids[random.Intn(3)] }
	for len(list) < many {
		user := object()
		if random.Intn(2) == 0 {
			user += "#" + relations[random.Intn(4)]
		}
		y := api.Tuple{Object: object(), Relation: relations[random.Intn(4)], User: user}
		if x.Allows(y) == api.OK {
			list = append(list, y)
		}
	}
	slices.SortFunc(list, tuple.Compare)
	return slices.Compact(list)
}

// P8.3: some schemas with any tuples, of which most make circles, against the model.
func TestManyCircles(t *testing.T) {
	random := rand.New(rand.NewSource(83))
	answered := 0
	for _, text := range []string{
		"relation a: group, group#a, group#b\nrelation b: group, group#a = this & a | a->b\nrelation c: group = a->b & b->a | a->c\nrelation d = a - c | a->d",
		"relation a: group, group#b, group#d = this | c->a\nrelation b: group, group#a = a & d\nrelation c: group, user\nrelation d: group#a, group#b = this & b | c->d | c",
		"relation a: group\nrelation b: group, group#b = this - a | a->b\nrelation c: group, group#c, group#b = (this & b) - a->a\nrelation d = (a->c | d) - (b - c) | a->d & c",
	} {
		x := parse(t, "namespace user\nnamespace group\n"+text)
		for range 400 {
			src := &tuples{list: randomTuples(random, x, 5+random.Intn(25))}
			for _, relation := range []string{"a", "b", "c", "d"} {
				m := &model{x: x, src: src, budget: MaxBudget}
				if _, found := m.expr(place{"group:x", relation}); !found {
					continue
				}
				want, _ := m.expand("group:x", relation)
				if users, e := Expand(x, src, "group:x", relation, len(m.list)); !slices.Equal(users, want) || e != api.OK {
					t.Fatalf("%s, %v: Expand of %s: %q, %v, want %q", text, src.list, relation, users, e, want)
				}
				answered += min(len(want), 1)
			}
		}
	}
	if answered < 1500 {
		t.Errorf("%d answers", answered)
	}
}

// P8.1 to P8.5: any schemas and tuples, and any budgets, against the model.
func TestManyQuestions(t *testing.T) {
	random := rand.New(rand.NewSource(8))
	told := map[api.Errno]int{}
	answered, circles, taken := 0, 0, 0
	for range 1500 {
		x, text := randomSchema(random)
		src := &tuples{list: randomTuples(random, x, random.Intn(40)), failing: map[place]api.Errno{}}
		for range random.Intn(3) {
			src.failing[place{[]string{"group:x", "doc:y", "doc:z"}[random.Intn(3)], []string{"a", "b", "c"}[random.Intn(3)]}] = api.Errno(random.Intn(300) - 100)
		}
		object, relation := []string{"group:x", "doc:x"}[random.Intn(2)], []string{"a", "b", "c"}[random.Intn(3)]
		whole := &model{x: x, src: src, budget: MaxBudget}
		whole.fill(place{object, relation})
		for _, budget := range []int{1, 2, 1 + random.Intn(20), len(whole.list) - 1, len(whole.list), len(whole.list) + 1, MaxBudget} {
			if budget < 1 {
				continue
			}
			m := &model{x: x, src: src, budget: budget}
			want, code := m.expand(object, relation)
			users, e := Expand(x, src, object, relation, budget)
			if !slices.Equal(users, want) || e != code {
				t.Fatalf("%s, %v, %v: Expand(%q, %q, %d): %q, %v, want %q, %v", text, src.list, src.failing, object, relation, budget, users, e, want, code)
			}
			for _, user := range []string{"user:x", "user:y", "group:z", "doc:x", "user:none"} {
				found, e := Check(x, src, api.Tuple{Object: object, Relation: relation, User: user}, budget)
				if found != slices.Contains(want, user) || e != code {
					t.Fatalf("%s, %v: Check(%q, %q, %q, %d): %v, %v", text, src.list, object, relation, user, budget, found, e)
				}
			}
			told[code]++
			if code == api.OK && len(want) > 0 {
				answered++
				circles += min(1, max(0, len(m.list)-3))
				taken += strings.Count(text, "-") - strings.Count(text, "->")
			}
		}
	}
	if told[api.ErrBudget] < 500 || told[api.OK] < 2000 || len(told) < 50 || answered < 1000 || circles < 100 || taken < 500 {
		t.Errorf("told %d and %d times, %d errors, %d answers, %d of many questions, %d takings away", told[api.ErrBudget], told[api.OK], len(told), answered, circles, taken)
	}
}
