package script

import (
	"fmt"
	"math/rand"
	"regexp"
	"slices"
	"strings"
	"testing"

	"porter/api"
	"porter/authz"
	"porter/cluster"
	"porter/tuple"
)

// model is another service, of which the same is asked by its calls: what a line says is found by patterns.
type model struct {
	*authz.Service
	kinds []string // of the requests
}

var (
	putLine      = regexp.MustCompile(`^put ([0-9]{1,9})((?s: .*)?)$`)
	questionLine = regexp.MustCompile(`^(check|expand) ([0-9]{1,9}) ([^ ]*) ([0-9]{1,9}) ([0-9]{1,9})$`)
	readLine     = regexp.MustCompile(`^(read) ([0-9]{1,9}) ([^ ]*) ([0-9]{1,9})$`)
	oneLine      = regexp.MustCompile(`^(ask|finish|deliver|drop|copy|tick|restart|settle) ([0-9]{1,9})$`)
	twoLine      = regexp.MustCompile(`^(spoil|crash|move) ([0-9]{1,9}) ([0-9]{1,9})$`)
)

// value: a number of digits.
func value(digits string) int {
	n := 0
	fmt.Sscanf(digits, "%d", &n)
	return n
}

// failed: the answer that tells an error.
func failed(e api.Errno) []string { return []string{fmt.Sprintf("error %d", int(e))} }

// plain: ok, or an error.
func plain(e api.Errno) []string {
	if e != api.OK {
		return failed(e)
	}
	return []string{"ok"}
}

// line: what a line is to be answered.
func (m *model) line(line string) []string {
	if x := putLine.FindStringSubmatch(line); x != nil {
		return m.put(value(x[1]), x[2])
	}
	x := questionLine.FindStringSubmatch(line)
	if x == nil {
		x = readLine.FindStringSubmatch(line)
	}
	if x != nil {
		return m.question(x)
	}
	if x := oneLine.FindStringSubmatch(line); x != nil {
		return m.one(x[1], value(x[2]))
	}
	if x := twoLine.FindStringSubmatch(line); x != nil {
		return m.two(x[1], value(x[2]), value(x[3]))
	}
	switch line {
	case "round":
		for range m.Len() {
			m.Deliver(0)
		}
		for at := range m.Nodes() {
			m.Tick(at)
		}
		return []string{"ok"}
	case "closed":
		closed, last, e := m.Closed()
		if e != api.OK {
			return failed(e)
		}
		return []string{fmt.Sprintf("closed %d %d", closed, last)}
	case "commits":
		return m.commits()
	}
	return failed(api.ErrCommand)
}

func (m *model) put(at int, rest string) []string {
	var muts []api.Mutation
	var pre []api.Condition
	for rest != "" {
		word := rest[1:]
		if end := strings.IndexByte(word, ' '); end >= 0 {
			word = word[:end]
		}
		rest = rest[1+len(word):]
		if word == "" {
			return failed(api.ErrCommand)
		}
		x, e := tuple.Parse(word[1:])
		switch {
		case e != api.OK:
			return failed(e)
		case word[0] == '+':
			muts = append(muts, api.Mutation{Tuple: x})
		case word[0] == '-':
			muts = append(muts, api.Mutation{Delete: true, Tuple: x})
		case word[0] == '?':
			pre = append(pre, api.Condition{Tuple: x})
		case word[0] == '!':
			pre = append(pre, api.Condition{Absent: true, Tuple: x})
		default:
			return failed(api.ErrCommand)
		}
	}
	k, e := m.Put(at, muts, pre...)
	return m.asked("put", k, e)
}

func (m *model) question(x []string) []string {
	at, token := value(x[2]), int64(value(x[4]))
	text := x[3]
	if x[1] != "check" {
		text += "@user:x"
	}
	y, e := tuple.Parse(text)
	if e != api.OK {
		return failed(e)
	}
	k := 0
	switch x[1] {
	case "check":
		k, e = m.Check(at, y, token, value(x[5]))
	case "expand":
		k, e = m.Expand(at, y, token, value(x[5]))
	case "read":
		k, e = m.Read(at, y, token)
	}
	return m.asked(x[1], k, e)
}

func (m *model) asked(kind string, k int, e api.Errno) []string {
	if e != api.OK {
		return failed(e)
	}
	m.kinds = append(m.kinds, kind)
	return []string{fmt.Sprintf("request %d", k)}
}

func (m *model) one(what string, n int) []string {
	switch what {
	case "ask":
		a, e := m.Ask(n)
		return m.told(n, a, e)
	case "finish":
		a, e := m.Finish(n, 1000)
		return m.told(n, a, e)
	case "deliver":
		return plain(m.Deliver(n))
	case "drop":
		return plain(m.Drop(n))
	case "copy":
		return plain(m.Copy(n))
	case "tick":
		return plain(m.Tick(n))
	case "restart":
		return plain(m.Restart(n))
	}
	switch {
	case n > 1000:
		return failed(api.ErrRange)
	case m.Settle(n):
		return []string{"quiet"}
	}
	return []string{"busy"}
}

func (m *model) two(what string, n, k int) []string {
	switch what {
	case "spoil":
		return plain(m.Spoil(n, k))
	case "crash":
		return plain(m.Crash(n, k))
	}
	return plain(m.Move(n, k))
}

func (m *model) told(k int, a authz.Answer, e api.Errno) []string {
	switch {
	case e != api.OK:
		return failed(e)
	case !a.Done:
		return []string{"pending"}
	case a.Code != api.OK:
		return failed(a.Code)
	}
	switch m.kinds[k] {
	case "put":
		return []string{fmt.Sprintf("done %d", a.Rev)}
	case "check":
		return []string{fmt.Sprintf("%s %d", map[bool]string{true: "allow", false: "deny"}[a.Allow], a.Rev)}
	}
	text := fmt.Sprintf("users %d", a.Rev)
	for _, u := range a.Users {
		text += " " + u
	}
	return []string{text}
}

func (m *model) commits() []string {
	var list []string
	for _, c := range m.Commits() {
		request := -1
		for k, kind := range m.kinds {
			if kind == "put" && m.Call(k) == c.Call {
				request = k
			}
		}
		list = append(list, fmt.Sprintf("commit %d %d", c.Rev, request))
	}
	return append(list, "ok")
}

// writer makes lines.
type writer struct {
	*rand.Rand
	nodes, asked int
}

// pick: one of some texts.
func (w *writer) pick(texts ...string) string { return texts[w.Intn(len(texts))] }

// num: a number below a bound, mostly; with noughts ahead sometimes.
func (w *writer) num(below int) string {
	switch w.Intn(40) {
	case 0:
		return w.pick("999999999", "1000", "1001", "9", "16", "000000000", "0000000000", "1234567890", "", "-1", "x")
	case 1:
		return fmt.Sprintf("%09d", w.Intn(max(below, 1)))
	}
	return fmt.Sprint(w.Intn(max(below, 1)))
}

// place: an object with a relation, and mostly one that the schema has.
func (w *writer) place() string {
	return fmt.Sprintf(w.pick("doc:d%d#viewer", "doc:d%d#viewer", "doc:d%d#banned", "doc:d%d#parent", "group:g%d#member", "group:g%d#member", "doc:d%d#member"), w.Intn(4))
}

// tup: a tuple, mostly one that the schema allows.
func (w *writer) tup() string {
	switch w.Intn(30) {
	case 0:
		return w.place() + fmt.Sprintf(w.pick("@doc:d%d", "@user:u%d", "@group:g%d#member", "", "@", "@x%d"), w.Intn(4))
	case 1:
		return w.pick("", "doc:a", "doc:A#viewer@user:ann", "doc:a#viewer@user:ann@", "user:ann", "#@")
	}
	return fmt.Sprintf(w.pick("doc:d%d#viewer@group:g%d#member", "group:g%d#member@group:g%d#member", "group:g%d#member@user:u%d", "doc:d%d#viewer@user:u%d", "doc:d%d#parent@doc:d%d", "doc:d%d#banned@user:u%d"), w.Intn(4), w.Intn(3))
}

// line: a line, mostly a right one.
func (w *writer) line() string {
	at, packet, request := w.num(w.nodes), w.num(8), w.num(w.asked+1)
	switch w.Intn(30) {
	case 0, 1, 2, 3, 4:
		line := "put " + at
		for range w.Intn(4) {
			line += " " + w.pick("+", "+", "+", "-", "-", "?", "!") + w.tup()
		}
		return line
	case 5, 6:
		return "check " + at + " " + w.place() + "@user:u" + fmt.Sprint(w.Intn(3)) + " " + w.num(4) + " " + w.num(12)
	case 7:
		return "expand " + at + " " + w.place() + " " + w.num(4) + " " + w.num(12)
	case 8:
		return "read " + at + " " + w.place() + " " + w.num(4)
	case 9, 10, 11:
		return "ask " + request
	case 12, 13:
		return "finish " + request
	case 14, 15, 16:
		return "deliver " + packet
	case 17:
		return w.pick("drop ", "copy ", "copy ") + packet
	case 18, 19:
		return "tick " + at
	case 20:
		return w.pick("crash "+at+" "+w.num(60), "restart "+at, "spoil "+packet+" "+w.num(600), "move "+w.num(16)+" "+at)
	case 21:
		return "settle " + w.num(100)
	case 22, 23, 24, 25, 26:
		return "round"
	case 27:
		return "closed"
	case 28:
		return "commits"
	}
	return w.pick("restart "+at, "settle 400", "", "what", "round ")
}

// bent: a line with some of its bytes changed.
func (w *writer) bent(line string) string {
	b := []byte(line)
	for range 1 + w.Intn(3) {
		i := w.Intn(len(b) + 1)
		other := w.pick(" ", " ", "0", "9", "+", "#", "@", ":", "-", "?", "!", "*", "a", "\n", "\x00", "\xff")
		switch w.Intn(3) {
		case 0:
			b = slices.Insert(b, i, []byte(other)...)
		case 1:
			b = slices.Delete(b, min(i, max(len(b)-1, 0)), min(i+1, len(b)))
		default:
			b = append(b[:i:i], append([]byte(other), b[min(i+1, len(b)):]...)...)
		}
	}
	return string(b)
}

// P21.1 to P21.4, P2: any lines, most of them right: a driver answers what the calls do, and so does Run.
func TestAnyLines(t *testing.T) {
	r := rand.New(rand.NewSource(21))
	for i := range 300 {
		t.Run(fmt.Sprint(i), func(t *testing.T) {
			w := &writer{Rand: r, nodes: 1 + r.Intn(5)}
			d := made(t, w.nodes)
			m := &model{Service: made(t, w.nodes).Service}
			var text, answers []string
			for range 150 {
				line := w.line()
				if r.Intn(8) == 0 {
					line = w.bent(line)
				}
				got, want := d.Line(line), m.line(line)
				if !slices.Equal(got, want) || i < 100 && state(d.Service) != state(m.Service) {
					t.Fatalf("%q behind %q: %q, want %q", line, text, got, want)
				}
				w.asked = len(m.kinds)
				if strings.Contains(line, "\n") {
					return
				}
				text, answers = append(text, line), append(answers, got...)
			}
			if told := runs(t, strings.Join(text, "\n"), w.nodes); told != strings.Join(answers, "\n")+"\n" {
				t.Errorf("Run of %q: %q, want %q", text, told, answers)
			}
		})
	}
}

// P21.2: behind any lines a settle brings all to an end: each request is told, and each commit is of a put that is done or lost.
func TestAnyLinesEnd(t *testing.T) {
	r := rand.New(rand.NewSource(22))
	for range 100 {
		w := &writer{Rand: r, nodes: 1 + r.Intn(5)}
		d := made(t, w.nodes)
		for range 100 {
			if got := d.Line(w.line()); strings.HasPrefix(got[0], "request ") {
				w.asked++
			}
		}
		says(t, d, "settle 400", "quiet")
		_, last, _ := d.Closed()
		says(t, d, "closed", fmt.Sprintf("closed %d %d", last, last))
		done := map[int]string{}
		for k := range w.asked {
			told := d.Line(fmt.Sprintf("finish %d", k))[0]
			if told == "pending" || !regexp.MustCompile(`^(done|allow|deny|error) [0-9]+$|^users [0-9]+( [a-z0-9_]+:[a-z0-9_]+(#[a-z0-9_]+)?)*$`).MatchString(told) {
				t.Fatalf("finish %d: %q", k, told)
			}
			done[k] = told
		}
		for _, line := range d.Line("commits") {
			rev, k := 0, 0
			if n, _ := fmt.Sscanf(line, "commit %d %d", &rev, &k); n < 2 {
				break
			}
			o, _ := d.Result(d.Call(k))
			if done[k] != fmt.Sprintf("done %d", rev) && o.State != cluster.Lost {
				t.Fatalf("%q, but request %d: %q", line, k, done[k])
			}
		}
	}
}

// P1: any lines, schemas and numbers; and each line is answered, by Run as by Line.
func FuzzNothingPanics(f *testing.F) {
	f.Add(world, "put 0 +doc:a#viewer@user:ann\nfinish 0\nsettle 400\ncheck 1 doc:a#viewer@user:ann 1 5\nfinish 1\ncommits", 2)
	f.Add(world, "crash 0 9\nsettle 0\nmove 3 1\nround\nround\nspoil 0 8\ncopy 0\ndeliver 1\ndrop 0\nclosed\nrestart 0\ntick 1\nread 0 doc:a#viewer 0\nexpand 1 doc:a#viewer 3 3\nask 1", 3)
	f.Add("what", "put \xff\n\n  \x00", -1)
	f.Add("namespace doc\nrelation a: doc", "put 0 *doc:a#a@doc:b  \ncheck 0000000001 + -1 99999999999999999999", 8)
	f.Fuzz(func(t *testing.T, schema, text string, nodes int) {
		told, e, _ := Run(schema, text, nodes)
		d, f, _ := New(schema, nodes, 8, api.MaxDisk)
		if len(text) > MaxText {
			f = api.ErrLong
		}
		if e != f || e != api.OK && told != "" {
			t.Fatalf("Run: %v, want %v", e, f)
		}
		if e != api.OK {
			return
		}
		m := &model{Service: d.Service}
		d, _, _ = New(schema, nodes, 8, api.MaxDisk)
		var want strings.Builder
		for _, line := range strings.Split(text, "\n") {
			list := m.line(line)
			if got := d.Line(line); len(got) == 0 || !slices.Equal(got, list) {
				t.Fatalf("%q: %q, want %q", line, got, list)
			}
			want.WriteString(strings.Join(list, "\n") + "\n")
		}
		if told != want.String() {
			t.Fatalf("Run: %q, want %q", told, want.String())
		}
		d.Line(text)
	})
}
