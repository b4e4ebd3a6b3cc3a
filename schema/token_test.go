package schema

import (
	"math/rand"
	"strings"
	"testing"

	"porter/api"
)

// walker goes through a line token by token, by a table of what may follow what: another way to tell where the first token stands that can't be so.
type walker struct {
	state string // what was read last
	depth int    // how many brackets are open
}

// isWord: is a token a name?
func isWord(token string) bool {
	return strings.Trim(token, "abcdefghijklmnopqrstuvwxyz0123456789_") == ""
}

// step: the state behind a token; an empty one: it can't be so.
func (w *walker) step(token string) string {
	word := isWord(token)
	switch w.state + " " + token {
	case "start namespace":
		return "namespace"
	case "start relation":
		return "relation"
	case "head :", "type ,", "pair ,":
		return "wants type"
	case "type #":
		return "wants pair"
	case "head =", "type =", "pair =", "plain |", "plain &", "plain -", "whole |", "whole &", "whole -":
		return "wants factor"
	case "plain ->":
		return "wants name"
	}
	switch {
	case w.state == "namespace" && word:
		return "done"
	case w.state == "relation" && word:
		return "head"
	case w.state == "wants type" && word:
		return "type"
	case w.state == "wants pair" && word:
		return "pair"
	case w.state == "wants name" && word && token != "this":
		return "whole"
	case w.state == "wants factor" && token == "this":
		return "whole"
	case w.state == "wants factor" && word:
		return "plain"
	case w.state == "wants factor" && token == "(" && w.depth < MaxDepth:
		w.depth++
		return "wants factor"
	case (w.state == "plain" || w.state == "whole") && token == ")" && w.depth > 0:
		w.depth--
		return "whole"
	}
	return ""
}

// wrong: the error of a token that can't be so, or of the line's end.
func (w *walker) wrong() api.Errno {
	if w.depth > 0 || w.state == "wants factor" || w.state == "wants name" {
		return api.ErrExpr
	}
	return api.ErrLine
}

// verdict: what is wrong with a line behind a namespace, by its tokens alone.
func verdict(tokens []string) api.Errno {
	w := &walker{state: "start"}
	for _, token := range tokens {
		next := w.step(token)
		if next == "" {
			return w.wrong()
		}
		w.state = next
	}
	switch w.state {
	case "start", "done", "head", "type", "pair", "plain", "whole":
		if w.depth == 0 {
			return api.OK
		}
	}
	return w.wrong()
}

// randomLine: tokens of a line that is right, or nearly.
func randomLine(random *rand.Rand) []string {
	words := []string{"a", "b", "this", "namespace", "relation", longest}
	word := func() string { return words[random.Intn(len(words))] }
	line := []string{"relation", word()}
	if random.Intn(2) == 0 {
		line = append(line, ":", word())
		for range random.Intn(3) {
			line = append(line, ",", word())
			if random.Intn(2) == 0 {
				line = append(line, "#", word())
			}
		}
	}
	if random.Intn(4) > 0 {
		s := write(random, randomExpr(random, words, random.Intn(4)), 0)
		apart := strings.NewReplacer("->", " -> ", "-", " - ", "|", " | ", "&", " & ", "(", " ( ", ")", " ) ")
		line = append(append(line, "="), strings.Fields(apart.Replace(s))...)
	}
	return line
}

// spoil: a line with so many tokens gone, added or changed.
func spoil(random *rand.Rand, line []string, times int) []string {
	tokens := []string{"->", ":", ",", "#", "=", "|", "&", "-", "(", ")", "a", "this", "namespace", "relation"}
	for range times {
		token := tokens[random.Intn(len(tokens))]
		at := random.Intn(len(line) + 1)
		rest := append([]string(nil), line[at:]...)
		line = line[:at]
		switch random.Intn(3) {
		case 0:
			line = append(line, token)
		case 1:
			if len(rest) > 0 {
				rest[0] = token
			}
		case 2:
			if len(rest) > 0 {
				rest = rest[1:]
			}
		}
		line = append(line, rest...)
	}
	return line
}

// P6.2 to P6.4: any tokens, against a table of what may follow what.
func TestManyLines(t *testing.T) {
	random := rand.New(rand.NewSource(64))
	told := map[api.Errno]int{}
	for range 20000 {
		line := spoil(random, randomLine(random), random.Intn(3))
		want := verdict(line)
		told[want]++
		text := "namespace x\n" + strings.Join(line, " ")
		y, e, in := Parse(text)
		if want == api.OK {
			if e == api.ErrLine || e == api.ErrExpr || e == api.ErrLong {
				t.Fatalf("%q: %v", text, e)
			}
		} else if y != nil || e != want || in != 1 {
			t.Fatalf("%q: %v in %d, want %v", text, e, in, want)
		}
	}
	for _, e := range []api.Errno{api.OK, api.ErrLine, api.ErrExpr} {
		if told[e] < 2000 {
			t.Errorf("%v was told %d times only", e, told[e])
		}
	}
}
