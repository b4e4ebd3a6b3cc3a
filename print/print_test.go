package print

import (
	"math/rand"
	"slices"
	"strings"
	"testing"

	"porter/api"
	"porter/schema"
)

// P24.1 and P24.2: the chapter's example.
func TestExample(t *testing.T) {
	x := parse(t, "namespace a\nrelation b:a,a#b\nrelation c=(b|this)&b")
	if s := Print(x); s != "namespace a\nrelation b: a, a#b\nrelation c = (b | this) & b\n" {
		t.Errorf("Print: %q", s)
	}
}

// P24.1
func TestExpr(t *testing.T) {
	for text, want := range map[string]string{
		"this": "this", "a": "a", "a->b": "a->b", "  a  ->  b ": "a->b", "(this)": "this", "((a))": "a", "((a->b))": "a->b",
		"a|b": "a | b", "a&b": "a & b", "a-b": "a - b", "a - a->b": "a - a->b", "a->b|this": "a->b | this", "(a->b)&(this)": "a->b & this",
		// An operator on the left.
		"a|b|c": "a | b | c", "(a|b)|c": "a | b | c", "a&b|c": "a & b | c", "(a&b)|c": "a & b | c", "(a-b)|c": "a - b | c",
		"(a|b)&c": "(a | b) & c", "(a&b)&c": "a & b & c", "(a-b)&c": "a - b & c", "a-b&c": "a - b & c",
		"(a|b)-c": "(a | b) - c", "(a&b)-c": "a & b - c", "(a-b)-c": "a - b - c", "a-b-c": "a - b - c", "a&b&c": "a & b & c",
		// And on the right.
		"a|(b|c)": "a | (b | c)", "a|(b&c)": "a | b & c", "a|b&c": "a | b & c", "a|(b-c)": "a | b - c",
		"a&(b|c)": "a & (b | c)", "a&(b&c)": "a & (b & c)", "a&(b-c)": "a & (b - c)",
		"a-(b|c)": "a - (b | c)", "a-(b&c)": "a - (b & c)", "a-(b-c)": "a - (b - c)",
		// On both.
		"(a|b)|(b|c)": "a | b | (b | c)", "(a|b)&(b|c)": "(a | b) & (b | c)", "(a-b)-(b-c)": "a - b - (b - c)", "(a&b)|(b-c)": "a & b | b - c", "(a|b)-(b&c)": "(a | b) - (b & c)", "((a|b))|((this))": "a | b | this",
		// And deeper.
		"a|(b&(c|a))": "a | b & (c | a)", "a&((b&c)|a)": "a & (b & c | a)", "a-(b-(c-(a-b)))": "a - (b - (c - (a - b)))", "((a|b)&c|a)&b": "((a | b) & c | a) & b", "(((a)))-(((b))|(c))": "a - (b | c)",
	} {
		e := exprOf(t, text)
		if s := Expr(e); s != want || slow(e) != want {
			t.Errorf("Expr of %s: %q, %q, want %q", text, s, slow(e), want)
		}
	}
	for _, name := range []string{"0", "_", "namespace", "relation", strings.Repeat("z", 32)} {
		x := parse(t, "namespace n\nrelation "+name+": n\nrelation x = "+name+"|"+name+"->"+name)
		if r, _ := x.Find("n", "x"); Expr(r.Expr) != name+" | "+name+"->"+name {
			t.Errorf("Expr of the name %s: %q", name, Expr(r.Expr))
		}
	}
}

// P24.1: all expressions of up to five leaves: as it is told case by case, and read back as what they were.
func TestAllExprs(t *testing.T) {
	leaves := []schema.Expr{{Op: "name", Name: "a"}, {Op: "this"}, {Op: "via", Via: "b", Name: "c"}, {Op: "name", Name: "b"}, {Op: "name", Name: "c"}}
	for size := range leaves {
		for _, e := range exprs(leaves[:size+1]) {
			s := Expr(e)
			if s != slow(e) {
				t.Fatalf("Expr of %s: %q, want %q", whole(e), s, slow(e))
			}
			if again := exprOf(t, s); !same(again, e) {
				t.Fatalf("%q is read as %s, not %s", s, whole(again), whole(e))
			}
			if again := exprOf(t, whole(e)); Expr(again) != s {
				t.Fatalf("Expr of %s, read: %q, want %q", whole(e), Expr(again), s)
			}
		}
	}
}

// P24.1: no brackets but those that are needed: without any pair of them another expression is read.
func TestNoBracketsTooMany(t *testing.T) {
	leaves := []schema.Expr{{Op: "name", Name: "a"}, {Op: "name", Name: "b"}, {Op: "name", Name: "c"}, {Op: "this"}}
	for _, e := range exprs(leaves) {
		s := Expr(e)
		for from := range len(s) {
			if s[from] != '(' {
				continue
			}
			depth, to := 1, from
			for depth > 0 {
				to++
				depth += strings.Count(s[to:to+1], "(") - strings.Count(s[to:to+1], ")")
			}
			bare := s[:from] + s[from+1:to] + s[to+1:]
			if same(exprOf(t, bare), e) {
				t.Errorf("%q: %q is the same", s, bare)
			}
		}
	}
}

// P24.1: as long and as deep as a schema has them.
func TestGreatExprs(t *testing.T) {
	start := "namespace n\nrelation a\nrelation x="
	for _, op := range []string{"|", "&", "-"} {
		many := (schema.MaxText - len(start) + 1) / 2
		x := parse(t, start+strings.TrimSuffix(strings.Repeat("a"+op, many), op))
		r, _ := x.Find("n", "x")
		if s := Expr(r.Expr); s != strings.TrimSuffix(strings.Repeat("a "+op+" ", many), " "+op+" ") {
			t.Errorf("many %s: %d bytes", op, len(s))
		}
		deep := strings.Repeat("a "+op+" (", schema.MaxDepth) + "a " + op + " b" + strings.Repeat(")", schema.MaxDepth)
		if s := Expr(exprOf(t, deep)); s != deep {
			t.Errorf("deep %s: %q", op, s)
		}
	}
}

// P24.1 and P1: of what is no Expr of a schema, that it ends.
func TestRawExprs(t *testing.T) {
	leaf := schema.Expr{Op: "this"}
	for _, op := range []string{"", "this", "name", "via", "|", "&", "-", "x", "\xff", "||"} {
		for many := range 5 {
			args := make([]schema.Expr, many)
			Expr(schema.Expr{Op: op, Name: "\x00", Via: "->", Args: args})
			Expr(schema.Expr{Op: "-", Args: []schema.Expr{leaf, {Op: op, Args: args}}})
			Expr(schema.Expr{Op: op, Args: []schema.Expr{{Op: op, Args: args}, {Op: op, Args: args}}})
		}
		e := leaf
		for range 1 << 16 {
			e = schema.Expr{Op: op, Args: []schema.Expr{e, leaf}}
		}
		Expr(e)
		e = leaf
		for range 1 << 16 {
			e = schema.Expr{Op: op, Args: []schema.Expr{leaf, e}}
		}
		Expr(e)
		// Each is twice in the one that holds it, or it holds itself.
		e = leaf
		for range 100 {
			e = schema.Expr{Op: op, Args: []schema.Expr{e, e}}
		}
		Expr(e)
		circle := []schema.Expr{{Op: op}, {Op: op}}
		circle[0].Args, circle[1].Args = circle, circle
		Expr(circle[0])
	}
}

// P24.2
func TestPrint(t *testing.T) {
	for _, c := range [][2]string{
		{"", ""}, {"\n \n", ""}, {"namespace a", "namespace a\n"}, {"\n namespace  a \n\n namespace b\n", "namespace a\nnamespace b\n"}, {"namespace b\nnamespace a", "namespace b\nnamespace a\n"},
		{"namespace a\nrelation r", "namespace a\nrelation r\n"}, {"namespace a\nrelation r=this", "namespace a\nrelation r\n"}, {"namespace a\nrelation r = ((this))", "namespace a\nrelation r\n"}, {"namespace a\nrelation r:a=(this)", "namespace a\nrelation r: a\n"},
		{"namespace a\nrelation r = this | this", "namespace a\nrelation r = this | this\n"}, {"namespace a\nrelation r=r", "namespace a\nrelation r = r\n"}, {"namespace a\nrelation this : a\nrelation r:a#this=this", "namespace a\nrelation this: a\nrelation r: a#this\n"},
		{"namespace a\nrelation r:a", "namespace a\nrelation r: a\n"}, {"namespace a\nrelation r : a # r , a", "namespace a\nrelation r: a#r, a\n"}, {"namespace a\nrelation r:a,a,a#r,a#r,a", "namespace a\nrelation r: a, a, a#r, a#r, a\n"},
		{"namespace a\nrelation r:a=r|r->r", "namespace a\nrelation r: a = r | r->r\n"}, {"namespace a\nrelation r:a#r,a=this&(r|this)", "namespace a\nrelation r: a#r, a = this & (r | this)\n"},
		// In the order of the text, namespace by namespace; names may be alike.
		{"namespace z\nrelation y: a\nrelation x\n\nnamespace a\nnamespace m\nrelation y = x\nrelation x: z#y, m", "namespace z\nrelation y: a\nrelation x\nnamespace a\nnamespace m\nrelation y = x\nrelation x: z#y, m\n"},
		{"namespace namespace\nrelation relation: namespace#relation\nrelation namespace = relation", "namespace namespace\nrelation relation: namespace#relation\nrelation namespace = relation\n"},
	} {
		if s := Print(parse(t, c[0])); s != c[1] {
			t.Errorf("%q: %q, want %q", c[0], s, c[1])
		}
		if s := Print(parse(t, c[1])); s != c[1] {
			t.Errorf("%q again: %q", c[1], s)
		}
	}
}

// P24.2: what is written is read as the same schema, and written so again.
func TestThereAndBack(t *testing.T) {
	random := rand.New(rand.NewSource(242))
	long := 0
	for range 2000 {
		text := randomSchema(random)
		x := parse(t, text)
		s := Print(x)
		y := parse(t, s)
		if !alike(x, y) || Print(y) != s || strings.Contains(s, "  ") || strings.Contains(s, " \n") || strings.Contains(s, "\n\n") {
			t.Fatalf("%q: %q", text, s)
		}
		if list := Diff(x, y); len(list) > 0 {
			t.Fatalf("%q and %q: %v", text, s, list)
		}
		long = max(long, len(s))
	}
	if long < 400 {
		t.Errorf("the longest has %d bytes", long)
	}
}

// differs: is Diff of two texts so? Each change is told as its kind's sign, the namespace, # and the relation, with ! behind it if it refuses users.
func differs(t *testing.T, a, b string, want string) {
	t.Helper()
	var words []string
	for _, c := range Diff(parse(t, a), parse(t, b)) {
		sign := map[int]string{1: "+", 2: "-", 3: "*"}[c.Kind]
		word := sign + c.Space + "#" + c.Relation
		if c.Refuses {
			word += "!"
		}
		words = append(words, word)
	}
	if s := strings.Join(words, " "); s != want {
		t.Errorf("from %q to %q: %q, want %q", a, b, s, want)
	}
}

// P24.3
func TestDiff(t *testing.T) {
	if New != 1 || Gone != 2 || Other != 3 {
		t.Errorf("the kinds are %d, %d, %d", New, Gone, Other)
	}
	from := "namespace a\nnamespace b\nnamespace c\nrelation q\nrelation r: a, b\nrelation s: a"
	for _, c := range [][3]string{
		{"", "", ""}, {"namespace a", "", ""}, {"", "namespace a", ""}, {"namespace a", "namespace b\nnamespace a", ""}, {from, from, ""},
		{"namespace a\nrelation r", "", "-a#r"}, {"namespace a\nrelation r: a", "", "-a#r!"}, {"namespace a\nrelation r: a", "namespace a", "-a#r!"}, {"namespace a\nrelation r: a#r = r", "namespace a", "-a#r!"}, {"namespace a\nrelation r = r", "namespace a", "-a#r"},
		{"", "namespace a\nrelation r", "+a#r"}, {"namespace a", "namespace a\nrelation r: a", "+a#r"}, {"namespace a", "namespace a\nrelation r: a = r->r", "+a#r"},
		// By the line alone: blanks, brackets and what stands between don't count.
		{"namespace a\nrelation r:a,a#r=(this)|(r&r)", "\nnamespace a\n\nrelation  r : a , a # r = this|r&r\n", ""}, {"namespace a\nrelation r = this", "namespace a\nrelation r", ""}, {"namespace a\nrelation r = (r|r)|r", "namespace a\nrelation r = r|r|r", ""},
		{"namespace a\nrelation r = r|(r|r)", "namespace a\nrelation r = r|r|r", "*a#r"}, {"namespace a\nrelation r = this", "namespace a\nrelation r = r", "*a#r"}, {"namespace a\nrelation r: a = this|r", "namespace a\nrelation r: a", "*a#r"}, {"namespace a\nrelation r: a = r->r", "namespace a\nrelation r: a = r", "*a#r"},
		// Types.
		{"namespace a\nrelation r: a", "namespace a\nrelation r", "*a#r!"}, {"namespace a\nrelation r", "namespace a\nrelation r: a", "*a#r"}, {"namespace a\nrelation r: a, a#r", "namespace a\nrelation r: a#r, a", "*a#r"}, {"namespace a\nrelation r: a, a", "namespace a\nrelation r: a", "*a#r"}, {"namespace a\nrelation r: a", "namespace a\nrelation r: a, a", "*a#r"},
		{"namespace a\nrelation r: a", "namespace a\nrelation r: a#r", "*a#r!"}, {"namespace a\nrelation r: a#r", "namespace a\nrelation r: a", "*a#r!"}, {"namespace a\nrelation r: a, a#r", "namespace a\nrelation r: a", "*a#r!"}, {"namespace a\nrelation r: a#r, a", "namespace a\nrelation r: a", "*a#r!"}, {"namespace a\nrelation r: a", "namespace a\nrelation r: a#r, a", "*a#r"},
		{from, strings.Replace(from, "r: a, b", "r: b, c", 1), "*c#r!"}, {from, strings.Replace(from, "r: a, b", "r: c, b, a", 1), "*c#r"}, {from, strings.Replace(from, "r: a, b", "r: a, b = q", 1), "*c#r"}, {from, strings.Replace(from, "r: a, b", "r: a = q", 1), "*c#r!"}, {from, strings.Replace(from, "r: a, b", "r: b = q", 1), "*c#r!"},
		// In which namespace: the same name elsewhere is another relation.
		{"namespace a\nrelation r: a\nnamespace b", "namespace a\nnamespace b\nrelation r: a", "-a#r! +b#r"}, {"namespace a\nrelation r\nnamespace b", "namespace a\nnamespace b\nrelation r\nnamespace c\nrelation r", "-a#r +b#r +c#r"},
		{"namespace a\nrelation r: a\nnamespace b\nrelation r", "namespace a\nrelation r\nnamespace b\nrelation r: a", "*a#r! *b#r"}, {"namespace a\nrelation r\nnamespace b\nrelation s", "namespace b\nrelation s\nnamespace a\nrelation r", ""}, {"namespace a\nrelation r\nrelation s", "namespace a\nrelation s\nrelation r", ""},
		// In the order of a's text, then of b's.
		{"namespace b\nrelation y: b\nrelation x\nrelation k\nnamespace a\nrelation z\nrelation m: a", "namespace a\nrelation o\nrelation m: b\nrelation n: a\nnamespace c\nrelation p\nnamespace b\nrelation x: a\nrelation w\nrelation k", "-b#y! *b#x -a#z *a#m! +a#o +a#n +c#p +b#w"},
		{"namespace a\nrelation o\nrelation m: b\nrelation n: a\nnamespace c\nrelation p\nnamespace b\nrelation x: a\nrelation w\nrelation k", "namespace b\nrelation y: b\nrelation x\nrelation k\nnamespace a\nrelation z\nrelation m: a", "-a#o *a#m! -a#n! -c#p *b#x! -b#w +b#y +a#z"},
	} {
		differs(t, c[0], c[1], c[2])
		differs(t, c[0], c[0], "")
		differs(t, c[1], c[1], "")
	}
}

// P24.3: any schemas, by the lines of their texts.
func TestManyDiffs(t *testing.T) {
	random := rand.New(rand.NewSource(243))
	kinds := map[Change]int{}
	for range 3000 {
		x, y := parse(t, randomSchema(random)), parse(t, randomSchema(random))
		list := Diff(x, y)
		if !slices.Equal(list, slowDiff(x, y)) {
			t.Fatalf("from %q to %q: %v, want %v", Print(x), Print(y), list, slowDiff(x, y))
		}
		for _, c := range list {
			kinds[Change{Kind: c.Kind, Refuses: c.Refuses}]++
		}
	}
	if len(kinds) != 5 {
		t.Errorf("not all kinds of changes were met: %v", kinds)
	}
}

// P2: neither schemas nor expressions are changed, and what is answered is new memory.
func TestMemory(t *testing.T) {
	text := "namespace a\nrelation r: a, a#r = r | (r & this)\nrelation s: a\n"
	x, y := parse(t, text), parse(t, "namespace a\nrelation r: a")
	e := exprOf(t, "a|(b-c)")
	args := append(slices.Clone(e.Args), schema.Expr{Op: "spare"})
	e.Args = args[:2]
	first := Diff(x, y)
	kept := slices.Clone(first)
	second := Diff(x, y)
	clear(first[:cap(first)])
	if len(kept) != 2 || !slices.Equal(second, kept) || !slices.Equal(Diff(x, y), kept) {
		t.Errorf("Diff: %v, %v, want %v", second, Diff(x, y), kept)
	}
	for range 2 {
		if Print(x) != "namespace a\nrelation r: a, a#r = r | r & this\nrelation s: a\n" || Expr(e) != "a | b - c" {
			t.Errorf("%q, %q", Print(x), Expr(e))
		}
	}
	if !alike(x, parse(t, text)) || !same(e, exprOf(t, "a|(b-c)")) || args[2].Op != "spare" {
		t.Error("an argument was changed")
	}
}

// P1, and what holds of all schemas and expressions.
func FuzzNothingPanics(f *testing.F) {
	for _, s := range []string{"", "namespace a", "namespace a\nrelation b:a,a#b\nrelation c=(b|this)&b", "namespace a\nrelation p: a\nrelation r: a#r = this - p -> p | (p | (p & r))"} {
		f.Add(s, s+"\nnamespace z\nrelation r", "|", "this")
	}
	f.Add("namespace n\nrelation r = r-r", "\xff", "via", "\x00")
	f.Fuzz(func(t *testing.T, a, b, op, name string) {
		Expr(schema.Expr{Op: op, Name: name, Via: b, Args: []schema.Expr{{Op: name, Name: a}, {Op: op, Args: []schema.Expr{{Op: name}, {}}}}})
		x, e, _ := schema.Parse(a)
		if e != api.OK {
			return
		}
		s := Print(x)
		again, e, _ := schema.Parse(s)
		if e == api.OK && (!alike(x, again) || Print(again) != s || len(Diff(x, again)) > 0) || e != api.OK && e != api.ErrLong {
			t.Errorf("%q: %q, %v", a, s, e)
		}
		y, e, _ := schema.Parse(b)
		if e != api.OK {
			return
		}
		if !slices.Equal(Diff(x, y), slowDiff(x, y)) || !slices.Equal(Diff(y, x), slowDiff(y, x)) {
			t.Errorf("from %q to %q: %v, want %v", a, b, Diff(x, y), slowDiff(x, y))
		}
	})
}
