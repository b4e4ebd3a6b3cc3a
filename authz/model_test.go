package authz

import (
	"fmt"
	"math"
	"math/rand"
	"slices"
	"testing"

	"porter/api"
	"porter/check"
	"porter/cluster"
	"porter/ring"
	"porter/schema"
	"porter/store"
)

// reader takes numbers from bytes; behind the last one they are 0.
type reader []byte

func (r *reader) next(below int) int {
	if len(*r) == 0 {
		return 0
	}
	x := int((*r)[0])
	*r = (*r)[1:]
	return x % below
}

// wide: a number from two bytes.
func (r *reader) wide(below int) int { return (r.next(256)<<8 + r.next(256)) % max(below, 1) }

// wrote is a Put that was taken.
type wrote struct {
	muts []api.Mutation
	pre  []api.Condition
}

// posed is a question that was taken.
type posed struct {
	kind, at      int
	tuple         api.Tuple
	token, closed int64
	budget        int
	crashed       bool // its node, while it waited
}

// player drives a service as some bytes say, and holds it against P20.5.
type player struct {
	t        *testing.T
	s        *Service
	schema   *schema.Schema
	writes   map[int]wrote // by the cluster's call
	puts     map[int]int   // the cluster's calls
	asks     map[int]posed
	answers  map[int]Answer // of those that are done
	closed   int64
	count    int
	history  []string
	universe int
	muts     int
}

func newPlayer(t *testing.T, nodes, points, room int) *player {
	t.Helper()
	s, e, _ := New(world, nodes, points, room)
	if e != api.OK {
		t.Fatalf("New(.., %d, %d, %d): %v", nodes, points, room, e)
	}
	x, _, _ := schema.Parse(world)
	return &player{t: t, s: s, schema: x, writes: map[int]wrote{}, puts: map[int]int{}, asks: map[int]posed{}, answers: map[int]Answer{}, universe: 4}
}

// fatal: a promise is broken: what was done until then.
func (p *player) fatal(format string, args ...any) {
	p.t.Helper()
	for _, h := range p.history {
		p.t.Log(h)
	}
	p.t.Fatalf(format, args...)
}

// tup: one of some tuples, which the schema allows.
func (p *player) tup(r *reader) api.Tuple {
	x, y, u := r.next(p.universe), r.next(p.universe), r.next(3)
	return tup([]string{
		fmt.Sprintf("doc:d%d#viewer@group:g%d#member", x, y), fmt.Sprintf("group:g%d#member@group:g%d#member", x, y),
		fmt.Sprintf("group:g%d#member@user:u%d", x, u), fmt.Sprintf("doc:d%d#viewer@user:u%d", x, u),
		fmt.Sprintf("doc:d%d#parent@doc:d%d", x, y), fmt.Sprintf("doc:d%d#banned@user:u%d", x, u),
		fmt.Sprintf("doc:d%d#strict@user:u%d", x, u),
	}[r.next(7)])
}

// question: an object with a relation, and a user.
func (p *player) question(r *reader) api.Tuple {
	form := []string{"doc:d%d#viewer@user:u%d", "doc:d%d#strict@user:u%d", "group:g%d#member@user:u%d", "doc:d%d#banned@user:u%d"}[r.next(4)]
	return tup(fmt.Sprintf(form, r.next(p.universe), r.next(3)))
}

// act: one act, whichever the bytes say.
func (p *player) act(r *reader) {
	at := r.next(p.s.Nodes())
	packet := r.wide(p.s.Len())
	what, e := "", api.OK
	switch kind := r.next(64); {
	case kind < 8:
		what, e = p.put(at, r)
	case kind < 16:
		what, e = p.pose(at, r)
	case kind < 26:
		k := r.wide(p.count)
		what, e = fmt.Sprintf("Ask(%d)", k), p.ask(k)
	case kind < 36:
		what, e = fmt.Sprintf("Deliver(%d)", packet), p.s.Deliver(packet)
	case kind < 37:
		what, e = fmt.Sprintf("Drop(%d)", packet), p.s.Drop(packet)
	case kind < 39:
		if p.s.Len() <= 200 {
			what, e = fmt.Sprintf("Copy(%d)", packet), p.s.Copy(packet)
		}
	case kind < 40:
		bit := r.wide(400)
		what, e = fmt.Sprintf("Spoil(%d, %d)", packet, bit), p.s.Spoil(packet, bit)
	case kind < 46:
		what, e = fmt.Sprintf("Tick(%d)", at), p.s.Tick(at)
	case kind < 48:
		what, e = p.crash(at, r.next(100))
	case kind < 51:
		what, e = fmt.Sprintf("Restart(%d)", at), p.s.Restart(at)
	case kind < 54:
		slot := ring.Slot(p.tup(r).Object)
		what, e = fmt.Sprintf("Move(%d, %d)", slot, at), p.s.Move(slot, at)
	default:
		what = "rounds"
		p.rounds(1+r.next(6), kind < 60)
	}
	p.history = append(p.history, fmt.Sprintf("%s: %v", what, e))
	p.look()
}

// rounds: all goes right for a while; and all requests may be asked for.
func (p *player) rounds(count int, asked bool) {
	for range count {
		for k := 0; asked && k < p.count; k++ {
			p.ask(k)
		}
		for range p.s.Len() {
			p.s.Deliver(0)
		}
		for at := range p.s.Nodes() {
			p.s.Tick(at)
		}
	}
}

func (p *player) put(at int, r *reader) (string, api.Errno) {
	var w wrote
	seen := map[api.Tuple]int{}
	for range 1 + r.next(3) {
		x := p.tup(r)
		if seen[x]++; seen[x] == 1 && p.muts < 290 {
			p.muts++
			w.muts = append(w.muts, api.Mutation{Delete: r.next(3) == 0, Tuple: x})
		}
	}
	for range max(r.next(6)-4, 0) {
		w.pre = append(w.pre, api.Condition{Absent: r.next(2) == 0, Tuple: p.tup(r)})
	}
	k, e := p.s.Put(at, w.muts, w.pre...)
	if e == api.OK {
		p.puts[k] = p.s.Call(k)
		p.writes[p.s.Call(k)] = w
		p.add(k)
	}
	return fmt.Sprintf("Put(%d, %v, %v): %d", at, w.muts, w.pre, k), e
}

// add: requests are numbered one by one.
func (p *player) add(k int) {
	p.t.Helper()
	if k != p.count {
		p.fatal("request %d has the number %d", p.count, k)
	}
	p.count++
}

func (p *player) pose(at int, r *reader) (string, api.Errno) {
	q := posed{kind: r.next(3), at: at, tuple: p.question(r), budget: []int{1, 2, 3, 5, 9, 1024}[r.next(6)], closed: p.closed}
	if r.next(3) == 0 {
		q.token = p.closed + int64(r.next(3))
	}
	return p.poseThis(q)
}

func (p *player) poseThis(q posed) (string, api.Errno) {
	p.t.Helper()
	var k int
	var e api.Errno
	switch q.kind {
	case 0:
		k, e = p.s.Check(q.at, q.tuple, q.token, q.budget)
	case 1:
		k, e = p.s.Expand(q.at, q.tuple, q.token, q.budget)
	default:
		k, e = p.s.Read(q.at, q.tuple, q.token)
	}
	if e == api.OK {
		p.asks[k] = q
		if p.s.Call(k) != -1 {
			p.fatal("Call(%d): %d", k, p.s.Call(k))
		}
		p.add(k)
	}
	return fmt.Sprintf("question %d(%d, %v, %d, %d): %d", q.kind, q.at, q.tuple, q.token, q.budget, k), e
}

func (p *player) crash(at, keep int) (string, api.Errno) {
	e := p.s.Crash(at, keep)
	for k, q := range p.asks {
		if _, done := p.answers[k]; e == api.OK && q.at == at && !done {
			q.crashed = true
			p.asks[k] = q
		}
	}
	return fmt.Sprintf("Crash(%d, %d)", at, keep), e
}

// look: the closed revision.
func (p *player) look() {
	p.t.Helper()
	if closed, _, e := p.s.Closed(); e == api.OK {
		if closed < p.closed {
			p.fatal("closed: %d, but it was %d", closed, p.closed)
		}
		p.closed = closed
	}
}

// ask: what a request has come to is right, and stays so.
func (p *player) ask(k int) api.Errno {
	p.t.Helper()
	a, e := p.s.Ask(k)
	if (k < p.count) != (e == api.OK) || e != api.OK && e != api.ErrMissing {
		p.fatal("Ask(%d) of %d: %v", k, p.count, e)
	}
	p.look()
	known, done := p.answers[k]
	switch {
	case done && fmt.Sprint(known) != fmt.Sprint(a):
		p.fatal("request %d: %v, but it was %v", k, a, known)
	case !a.Done && fmt.Sprint(a) != fmt.Sprint(Answer{}):
		p.fatal("request %d isn't done: %v", k, a)
	case a.Done && !done:
		p.answers[k] = a
		p.judge(k, a)
	}
	if q, found := p.asks[k]; found && q.crashed && !a.Done {
		p.fatal("question %d isn't done, but its node crashed", k)
	}
	return e
}

// judge: P20.5.
func (p *player) judge(k int, a Answer) {
	p.t.Helper()
	if call, found := p.puts[k]; found {
		o, _ := p.s.Result(call)
		wanted := Answer{Done: true, Code: o.Code, Rev: o.Rev}
		if o.State == cluster.Lost {
			wanted.Code = api.ErrDown
		}
		if o.State == cluster.Pending || fmt.Sprint(wanted) != fmt.Sprint(a) {
			p.fatal("Put %d: %v, its call %v", k, a, o)
		}
		return
	}
	q := p.asks[k]
	if q.crashed != (a.Code == api.ErrDown) {
		p.fatal("question %d: %v, its node crashed: %v", k, a, q.crashed)
	}
	switch a.Code {
	case api.ErrDown, api.ErrUnavailable:
		if fmt.Sprint(a) != fmt.Sprint(Answer{Done: true, Code: a.Code}) {
			p.fatal("question %d: %v", k, a)
		}
	case api.ErrBudget:
		for rev := max(q.closed, q.token); rev <= p.closed; rev++ {
			if fmt.Sprint(p.right(q, rev)) == fmt.Sprint(a) {
				return
			}
		}
		p.fatal("question %d: %v, at no revision from %d to %d", k, a, max(q.closed, q.token), p.closed)
	default:
		if a.Rev < q.closed || a.Rev < q.token || a.Rev > p.closed || fmt.Sprint(p.right(q, a.Rev)) != fmt.Sprint(a) {
			p.fatal("question %d, %v: %v, want %v; closed %d to %d", k, q, a, p.right(q, a.Rev), q.closed, p.closed)
		}
	}
}

// at is a store at a revision.
type at struct {
	*store.Store
	rev int64
}

func (x at) Users(object, relation string) ([]string, api.Errno) {
	return x.Store.Users(object, relation, x.rev)
}

// right: what layer 8 answers a question of the model.
func (p *player) right(q posed, rev int64) Answer {
	p.t.Helper()
	src := at{p.model(), rev}
	a := Answer{Done: true, Rev: rev}
	switch q.kind {
	case 0:
		a.Allow, a.Code = check.Check(p.schema, src, q.tuple, q.budget)
	case 1:
		a.Users, a.Code = check.Expand(p.schema, src, q.tuple.Object, q.tuple.Relation, q.budget)
	default:
		a.Users, _ = src.Users(q.tuple.Object, q.tuple.Relation)
	}
	if a.Code != api.OK {
		a.Rev = 0
	}
	return a
}

// model: a store to which the muts of all commits are applied.
func (p *player) model() *store.Store {
	p.t.Helper()
	s := store.New()
	for _, x := range p.s.Commits() {
		w, found := p.writes[x.Call]
		if e := s.Apply(x.Rev, w.muts...); e != api.OK || !found {
			p.fatal("%v: %v", x, e)
		}
	}
	return s
}

// settle: P20.6: behind it each request comes to something.
func (p *player) settle() {
	p.t.Helper()
	if !p.s.Settle(400) {
		p.fatal("Settle")
	}
	p.history = append(p.history, "Settle")
	p.look()
	for k := range p.count {
		if _, e := p.s.Finish(k, 2000); e != api.OK {
			p.fatal("Finish(%d): %v", k, e)
		}
		if p.ask(k); !p.answers[k].Done {
			p.fatal("request %d comes to nothing", k)
		}
	}
}

// quiet: P20.6: what is asked of a service that is settled.
func (p *player) quiet(r *reader) {
	p.t.Helper()
	for range 6 {
		q := posed{kind: r.next(3), at: r.next(p.s.Nodes()), tuple: p.question(r), budget: []int{1, 2, 3, 5, 9, 1024}[r.next(6)], closed: p.closed, token: p.closed - int64(r.next(3))}
		what, _ := p.poseThis(q)
		p.history = append(p.history, what)
		rounds := 400
		if q.budget > 5 && q.kind < 2 {
			rounds = 4000
		}
		if a, _ := p.s.Finish(p.count-1, rounds); fmt.Sprint(a) != fmt.Sprint(p.right(q, p.closed)) {
			p.fatal("%s: %v, want %v", what, a, p.right(q, p.closed))
		}
		q.token = p.closed + 1
		p.poseThis(q)
		if a, _ := p.s.Finish(p.count-1, 400); fmt.Sprint(a) != fmt.Sprint(Answer{Done: true, Code: api.ErrUnavailable}) {
			p.fatal("%s, but with the token %d: %v", what, q.token, a)
		}
	}
	m := p.model()
	what, e := p.put(r.next(p.s.Nodes()), r)
	if e != api.OK { // there have been enough mutations
		return
	}
	p.history = append(p.history, what)
	wanted := Answer{Done: true, Rev: p.closed + 1}
	for _, x := range p.writes[p.s.Call(p.count-1)].pre {
		if has, _ := m.Has(x.Tuple, api.MaxRev); has == x.Absent {
			wanted = Answer{Done: true, Code: api.ErrCondition}
		}
	}
	if a, _ := p.s.Finish(p.count-1, 400); fmt.Sprint(a) != fmt.Sprint(wanted) && (wanted.Rev == 0 || a.Rev == 0) {
		p.fatal("%s: %v, want %v", what, a, wanted)
	}
	p.settle()
}

// P20.5 and P20.6: any acts, one behind the other, and then a Settle.
func TestAnyActs(t *testing.T) {
	r := rand.New(rand.NewSource(20))
	for i := range 250 {
		t.Run(fmt.Sprint(i), func(t *testing.T) {
			p := newPlayer(t, 1+r.Intn(5), 1+r.Intn(8), api.MaxDisk)
			p.universe = 1 + r.Intn(6)
			for range 3 {
				bytes := make(reader, 5000)
				r.Read(bytes)
				for range r.Intn(100) {
					p.act(&bytes)
				}
				p.settle()
				p.quiet(&bytes)
			}
		})
	}
}

// P20.5: mostly questions among writes and moves, packets that come one by one, clocks that go on by themselves.
func TestAnySmallActs(t *testing.T) {
	r := rand.New(rand.NewSource(21))
	for i := range 250 {
		t.Run(fmt.Sprint(i), func(t *testing.T) {
			p := newPlayer(t, 2+r.Intn(4), 1+r.Intn(8), api.MaxDisk)
			p.universe = 1 + r.Intn(3)
			bytes := make(reader, 9000)
			r.Read(bytes)
			for range 60 + r.Intn(300) {
				switch bytes.next(4) {
				case 0:
					p.s.Tick(bytes.next(p.s.Nodes()))
				case 1:
					p.s.Deliver(bytes.wide(p.s.Len()))
				case 2:
					p.ask(bytes.wide(p.count))
				default:
					p.act(&bytes)
				}
				p.look()
			}
			for k := range p.count {
				p.s.Finish(k, 2000)
				p.ask(k)
			}
		})
	}
}

// P20.5: any acts where the disks are soon full.
func TestAnyActsWithLittleRoom(t *testing.T) {
	r := rand.New(rand.NewSource(22))
	for i := range 100 {
		t.Run(fmt.Sprint(i), func(t *testing.T) {
			p := newPlayer(t, 1+r.Intn(5), 1+r.Intn(8), 100+r.Intn(3000))
			bytes := make(reader, 5000)
			r.Read(bytes)
			for range r.Intn(200) {
				p.act(&bytes)
			}
			for k := range p.count {
				p.s.Finish(k, math.MaxInt)
				p.ask(k)
			}
		})
	}
}

// P1: any acts with any numbers and texts.
func FuzzNothingPanics(f *testing.F) {
	f.Add(3, 8, 500, 1, 5, int64(3), "doc:a", world, []byte{1, 0, 0, 5, 2, 3, 0, 0, 31, 0, 0, 0, 45})
	f.Add(1, 1, 20, math.MinInt, math.MaxInt, int64(math.MinInt64), "", "namespace doc\nrelation viewer", []byte{})
	f.Add(8, 64, 1000, -1, 1<<40, int64(math.MaxInt64), "\xff#@", "namespace", []byte{0, 9, 9, 62})
	f.Fuzz(func(t *testing.T, nodes, points, room, at, x int, rev int64, text, schema string, acts []byte) {
		New(text, nodes, points, room)
		New(schema, at, x, room)
		p := newPlayer(t, 1+nodes&7, 1+points&63, 20+room&0xfff)
		if s, e, _ := New(schema, p.s.Nodes(), 1+points&63, 20+room&0xfff); e == api.OK {
			p.s = s
		}
		y := api.Tuple{Object: text, Relation: "viewer", User: "user:ann"}
		z := api.Tuple{Object: "doc:a", Relation: text, User: text}
		bytes := reader(acts[:min(len(acts), 100)])
		for len(bytes) > 0 {
			for i, node := range []int{at, x, bytes.next(p.s.Nodes())} {
				p.s.Put(node, []api.Mutation{{Tuple: y}, {Tuple: z}}, api.Condition{Tuple: y})
				p.s.Put(node, nil, api.Condition{Tuple: tup("doc:a#viewer@user:ann")})
				p.s.Check(node, []api.Tuple{y, z, tup("doc:a#viewer@user:ann")}[i], rev, x)
				p.s.Expand(node, []api.Tuple{z, y, tup("doc:a#viewer@")}[i], rev, 1+x&1023)
				p.s.Read(node, y, rev)
				p.s.Ask(node)
				p.s.Call(node)
				p.s.Crash(node, x)
				p.s.Finish(node, bytes.next(9))
			}
		}
		for k := range 9 {
			p.s.Finish(k, x)
		}
		if slices.Contains([]int{at, x}, 0) {
			p.s.Settle(at)
		}
	})
}
