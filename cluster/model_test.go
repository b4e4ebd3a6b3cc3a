package cluster

import (
	"fmt"
	"math"
	"math/rand"
	"slices"
	"testing"

	"porter/api"
	"porter/ring"
	"porter/store"
)

// reader takes numbers from bytes; behind the last one they are 0.
type reader []byte

func (r *reader) next(below int) int {
	if len(*r) == 0 {
		return 0
	}
	x := int((*r)[0])
	*r = (*r)[1:]
	return x % below
}

// wide: a number from two bytes.
func (r *reader) wide(below int) int { return (r.next(256)<<8 + r.next(256)) % max(below, 1) }

// wrote is what a call of Write was told.
type wrote struct {
	muts  []api.Mutation
	pre   []api.Condition
	above int64 // the highest revision of a write that was done when it began
}

// asked is what a Snapshot or a Fetch was told.
type asked struct {
	object, relation string
	rev              int64
	closed           int64 // when it began
	snapshot         bool
}

// player drives a cluster as some bytes say, and holds it against P19.8.
type player struct {
	t        *testing.T
	c        *Cluster
	writes   map[int]wrote
	asks     map[int]asked
	failed   map[int]int
	judged   map[int]int // answers of questions that were found right
	calls    int
	closed   int64
	commits  []Commit
	history  []string
	universe int
}

func newPlayer(t *testing.T, nodes, points, room int) *player {
	t.Helper()
	c, e := New(nodes, points, room)
	if e != api.OK {
		t.Fatalf("New(%d, %d, %d): %v", nodes, points, room, e)
	}
	return &player{t: t, c: c, writes: map[int]wrote{}, asks: map[int]asked{}, failed: map[int]int{}, judged: map[int]int{}, universe: 12}
}

// fatal: a promise is broken: what was done until then.
func (p *player) fatal(format string, args ...any) {
	p.t.Helper()
	for _, h := range p.history {
		p.t.Log(h)
	}
	p.t.Fatalf(format, args...)
}

// tup: one of some tuples, of few objects.
func (p *player) tup(n int) api.Tuple {
	return api.Tuple{Object: fmt.Sprintf("doc:d%d", n%p.universe), Relation: []string{"viewer", "owner"}[n/p.universe%2], User: fmt.Sprintf("user:u%d", n/2/p.universe%3)}
}

// act: one act, whichever the bytes say.
func (p *player) act(r *reader) {
	at := r.next(p.c.Nodes())
	what, e := "", api.OK
	packet := r.wide(p.c.Len())
	switch kind := r.next(64); {
	case kind < 10:
		what, e = p.write(at, r)
	case kind < 30:
		what, e = fmt.Sprintf("Deliver(%d)", packet), p.c.Deliver(packet)
	case kind < 33:
		what = "round"
		round(p.c)
	case kind < 34:
		what, e = fmt.Sprintf("Drop(%d)", packet), p.c.Drop(packet)
	case kind < 36:
		if p.c.Len() <= 200 {
			what, e = fmt.Sprintf("Copy(%d)", packet), p.c.Copy(packet)
		}
	case kind < 37:
		bit := r.wide(400)
		what, e = fmt.Sprintf("Spoil(%d, %d)", packet, bit), p.c.Spoil(packet, bit)
	case kind < 46:
		what, e = fmt.Sprintf("Tick(%d)", at), p.c.Tick(at)
	case kind < 48:
		keep := r.next(100)
		what, e = fmt.Sprintf("Crash(%d, %d)", at, keep), p.c.Crash(at, keep)
	case kind < 51:
		what, e = fmt.Sprintf("Restart(%d)", at), p.c.Restart(at)
	case kind < 56:
		slot := ring.Slot(p.tup(r.next(200)).Object)
		what, e = fmt.Sprintf("Move(%d, %d)", slot, at), p.c.Move(slot, at)
	case kind < 58:
		what, e = p.ask(at, r)
	case kind < 60:
		var call int
		call, e = p.c.Snapshot(at)
		what = fmt.Sprintf("Snapshot(%d): %d", at, call)
		if e == api.OK {
			p.asks[call] = asked{closed: p.closed, snapshot: true}
			p.calls++
		}
	default:
		for range 1 + r.next(6) {
			round(p.c)
		}
		what = "rounds"
	}
	p.history = append(p.history, fmt.Sprintf("%s: %v", what, e))
	p.judge()
}

func (p *player) write(at int, r *reader) (string, api.Errno) {
	var w wrote
	seen := map[api.Tuple]int{}
	for range 1 + r.next(3) {
		x := p.tup(r.next(200))
		if seen[x]++; seen[x] == 1 {
			w.muts = append(w.muts, api.Mutation{Delete: r.next(3) == 0, Tuple: x})
		}
	}
	for range max(r.next(5)-2, 0) {
		w.pre = append(w.pre, api.Condition{Absent: r.next(2) == 0, Tuple: p.tup(r.next(200))})
	}
	call, e := p.c.Write(at, w.muts, w.pre...)
	if e == api.OK {
		w.above = p.highest()
		p.writes[call] = w
		p.calls++
	}
	return fmt.Sprintf("Write(%d, %v, %v): %d", at, w.muts, w.pre, call), e
}

// highest: the highest revision of a write that is done.
func (p *player) highest() int64 {
	rev := int64(0)
	for call := range p.writes {
		if o, _ := p.c.Result(call); o.State == Done {
			rev = max(rev, o.Rev)
		}
	}
	return rev
}

func (p *player) ask(at int, r *reader) (string, api.Errno) {
	x, rev := p.tup(r.next(200)), p.closed-int64(r.next(4))
	call, e := p.c.Fetch(at, x.Object, x.Relation, rev)
	if e == api.OK {
		p.asks[call] = asked{object: x.Object, relation: x.Relation, rev: rev, closed: p.closed}
		p.calls++
	}
	return fmt.Sprintf("Fetch(%d, %v, %d): %d", at, x, rev, call), e
}

// judge: P19.8.
func (p *player) judge() {
	p.t.Helper()
	p.judgeCommits()
	p.judgeCalls()
	if closed, last, e := p.c.Closed(); e == api.OK {
		if closed < p.closed || last < closed {
			p.fatal("closed: %d of %d, but it was %d", closed, last, p.closed)
		}
		p.closed = closed
	} else if p.c.Up(0) {
		p.fatal("Closed: %v", e)
	}
	p.judgeRows(p.model(), p.closed)
}

// judgeCommits: commits stay, and each is of one call.
func (p *player) judgeCommits() {
	p.t.Helper()
	commits := p.c.Commits()
	byCall := map[int]int64{}
	for i, x := range commits {
		w, found := p.writes[x.Call]
		switch {
		case !found:
			p.fatal("%v is of no write", x)
		case byCall[x.Call] != 0:
			p.fatal("call %d is committed twice", x.Call)
		case x.Rev < 1 || i > 0 && x.Rev <= commits[i-1].Rev:
			p.fatal("the revisions don't rise: %v", commits)
		case x.Rev <= w.above:
			p.fatal("%v: began when %d was done", x, w.above)
		}
		byCall[x.Call] = x.Rev
	}
	for _, x := range p.commits {
		if !slices.Contains(commits, x) {
			p.fatal("%v isn't committed any more", x)
		}
	}
	p.commits = commits
	for call := range p.writes {
		o, e := p.c.Result(call)
		rev := byCall[call]
		switch {
		case e != api.OK:
			p.fatal("Result(%d): %v", call, e)
		case o.State == Done && (rev != o.Rev || rev == 0 || o.Code != api.OK):
			p.fatal("call %d: %v, but committed at %d", call, o, rev)
		case o.State == Failed && (rev != 0 || o.Code == api.OK || o.Rev != 0):
			p.fatal("call %d: %v, committed at %d", call, o, rev)
		case (o.State == Lost || o.State == Pending) && (o.Code != api.OK || o.Rev != 0), len(o.Users) > 0:
			p.fatal("call %d: %v", call, o)
		case o.State == Failed:
			p.failed[call] = 1
		case p.failed[call] != 0:
			p.fatal("call %d isn't failed any more", call)
		}
	}
}

// judgeCalls: what questions are told (P19.4).
func (p *player) judgeCalls() {
	p.t.Helper()
	for call, a := range p.asks {
		o, e := p.c.Result(call)
		if e != api.OK {
			p.fatal("Result(%d): %v", call, e)
		}
		if o.State != Done || p.judged[call] != 0 {
			continue
		}
		p.judged[call] = 1
		if a.snapshot {
			closed, _, e := p.c.Closed()
			if o.Rev < a.closed || e == api.OK && o.Rev > closed {
				p.fatal("call %d: %v; closed was %d, and is %d", call, o, a.closed, closed)
			}
			continue
		}
		users, _ := p.model().Users(a.object, a.relation, a.rev)
		if !slices.Equal(users, o.Users) || o.Rev != 0 {
			p.fatal("call %d: %v, want %v", call, o, users)
		}
	}
}

// model: a store to which the muts of all commits are applied.
func (p *player) model() *store.Store {
	p.t.Helper()
	s := store.New()
	for _, x := range p.commits {
		w := p.writes[x.Call]
		for _, y := range w.pre {
			if has, _ := s.Has(y.Tuple, x.Rev-1); has == y.Absent {
				p.fatal("%v: %v doesn't hold", x, y)
			}
		}
		if e := s.Apply(x.Rev, w.muts...); e != api.OK {
			p.fatal("%v: %v", x, e)
		}
	}
	return s
}

// judgeRows: each slot is served by at most one node, with just the model's rows as they were known then.
func (p *player) judgeRows(m *store.Store, closed int64) {
	p.t.Helper()
	rows := bySlot(m.Rows(), closed)
	served := map[int]int{}
	for at := range p.c.Nodes() {
		mine, e := p.c.Rows(at)
		if (e == api.OK) != p.c.Up(at) {
			p.fatal("Rows(%d): %v", at, e)
		}
		have := bySlot(mine, closed)
		for slot := range api.Slots {
			if !p.c.Serves(at, slot) {
				continue
			}
			if served[slot]++; served[slot] > 1 {
				p.fatal("slot %d is served twice", slot)
			}
			if !slices.Equal(have[slot], rows[slot]) {
				p.fatal("slot %d at node %d, closed %d: %v, want %v", slot, at, closed, have[slot], rows[slot])
			}
		}
	}
}

// bySlot: the rows of each slot, as far as they were known at a revision.
func bySlot(rows []api.Row, rev int64) [api.Slots][]api.Row {
	var list [api.Slots][]api.Row
	for _, r := range rows {
		if r.Until > rev {
			r.Until = 0
		}
		if slot := ring.Slot(r.Tuple.Object); r.Since <= rev {
			list[slot] = append(list[slot], r)
		}
	}
	return list
}

// settle: P19.9: nothing is left to do.
func (p *player) settle() {
	p.t.Helper()
	if !p.c.Settle(400) {
		p.fatal("Settle: %s", p.rest())
	}
	p.history = append(p.history, "Settle")
	p.judge()
	p.judgeSettled()
}

// rest: what is left to do, as far as it is told.
func (p *player) rest() string {
	closed, last, e := p.c.Closed()
	s := fmt.Sprintf("closed %d of %d, %v", closed, last, e)
	for at := range p.c.Nodes() {
		s += fmt.Sprintf("; node %d up: %v, %d locks", at, p.c.Up(at), p.c.Locks(at))
	}
	for call := range p.calls {
		if o, _ := p.c.Result(call); o.State == Pending {
			s += fmt.Sprintf("; call %d is pending", call)
		}
	}
	return s
}

// judgeSettled: how all is behind a Settle that answered true.
func (p *player) judgeSettled() {
	p.t.Helper()
	closed, last, e := p.c.Closed()
	if e != api.OK || closed != last {
		p.fatal("closed: %d of %d, %v", closed, last, e)
	}
	rows := bySlot(p.model().Rows(), last)
	for slot := range api.Slots {
		served := 0
		for at := range p.c.Nodes() {
			mine, _ := p.c.Rows(at)
			have := bySlot(mine, api.MaxRev)
			switch {
			case p.c.Serves(at, slot):
				served++
				if !slices.Equal(have[slot], rows[slot]) {
					p.fatal("slot %d at node %d: %v, want %v", slot, at, have[slot], rows[slot])
				}
			case len(have[slot]) > 0:
				p.fatal("slot %d: %v at node %d too", slot, have[slot], at)
			}
		}
		if served != 1 {
			p.fatal("slot %d is served by %d nodes", slot, served)
		}
	}
	for call := range p.calls {
		if o, _ := p.c.Result(call); o.State == Pending {
			p.fatal("call %d is pending", call)
		}
	}
	for at := range p.c.Nodes() {
		if !p.c.Up(at) || p.c.Locks(at) != 0 {
			p.fatal("node %d: up %v, %d locks", at, p.c.Up(at), p.c.Locks(at))
		}
	}
}

// judgeQuiet: a Write and a Move of a cluster that is settled (P19.9).
func (p *player) judgeQuiet(r *reader) {
	p.t.Helper()
	m := p.model()
	what, _ := p.write(r.next(p.c.Nodes()), r)
	p.history = append(p.history, what)
	call := p.calls - 1
	w, holds := p.writes[call], true
	for _, x := range w.pre {
		has, _ := m.Has(x.Tuple, api.MaxRev)
		holds = holds && has != x.Absent
	}
	p.settle()
	o, _ := p.c.Result(call)
	if holds && o.State != Done || !holds && (o.State != Failed || o.Code != api.ErrCondition) {
		p.fatal("%s: %v, its conditions hold: %v", what, o, holds)
	}
	slot, to := ring.Slot(p.tup(r.next(200)).Object), r.next(p.c.Nodes())
	served := p.c.Serves(to, slot)
	e := p.c.Move(slot, to)
	p.history = append(p.history, fmt.Sprintf("Move(%d, %d): %v", slot, to, e))
	if served != (e == api.ErrTwice) || !served && e != api.OK {
		p.fatal("Move(%d, %d): %v", slot, to, e)
	}
	p.settle()
	if !p.c.Serves(to, slot) {
		p.fatal("Move(%d, %d): not made", slot, to)
	}
}

// round: all packets on their way come to their nodes, and all clocks go on.
func round(c *Cluster) {
	for range c.Len() {
		c.Deliver(0)
	}
	for at := range c.Nodes() {
		c.Tick(at)
	}
}

// P19.8 and P19.9: any acts, one behind the other, and then a Settle.
func TestAnyActs(t *testing.T) {
	r := rand.New(rand.NewSource(19))
	for i := range 120 {
		t.Run(fmt.Sprint(i), func(t *testing.T) {
			p := newPlayer(t, 1+r.Intn(5), 1+r.Intn(8), api.MaxDisk)
			p.universe = 1 + r.Intn(14)
			for range 3 {
				bytes := make(reader, 5000)
				r.Read(bytes)
				for range r.Intn(120) {
					p.act(&bytes)
				}
				p.settle()
				p.judgeQuiet(&bytes)
			}
		})
	}
}

// P19.8 and P19.9: mostly packets that come one by one, in any order, and clocks that go on by themselves.
func TestAnySmallActs(t *testing.T) {
	r := rand.New(rand.NewSource(21))
	for i := range 150 {
		t.Run(fmt.Sprint(i), func(t *testing.T) {
			p := newPlayer(t, 2+r.Intn(4), 1+r.Intn(8), api.MaxDisk)
			p.universe = 1 + r.Intn(6)
			bytes := make(reader, 5000)
			r.Read(bytes)
			for range 40 + r.Intn(80) {
				switch bytes.next(3) {
				case 0:
					p.c.Tick(bytes.next(p.c.Nodes()))
				case 1:
					p.c.Deliver(bytes.wide(p.c.Len()))
				default:
					p.act(&bytes)
				}
				p.judge()
			}
			p.settle()
			p.judgeQuiet(&bytes)
		})
	}
}

// P19.8: any acts where the disks are soon full.
func TestAnyActsWithLittleRoom(t *testing.T) {
	r := rand.New(rand.NewSource(20))
	for i := range 100 {
		t.Run(fmt.Sprint(i), func(t *testing.T) {
			p := newPlayer(t, 1+r.Intn(5), 1+r.Intn(8), 100+r.Intn(3000))
			bytes := make(reader, 5000)
			r.Read(bytes)
			for range r.Intn(200) {
				p.act(&bytes)
			}
			settled := p.c.Settle(math.MaxInt)
			p.judge()
			if settled {
				p.judgeSettled()
			}
		})
	}
}

// P1: any acts with any numbers and texts.
func FuzzNothingPanics(f *testing.F) {
	f.Add(3, 8, 500, 1, 5, int64(3), "doc:a", []byte{1, 0, 0, 5, 2, 3, 0, 0, 31, 0, 0, 0, 45})
	f.Add(1, 1, 20, math.MinInt, math.MaxInt, int64(math.MinInt64), "", []byte{})
	f.Add(8, 64, 1000, -1, 1<<40, int64(math.MaxInt64), "\xff#@", []byte{0, 9, 9, 62})
	f.Fuzz(func(t *testing.T, nodes, points, room, at, x int, rev int64, text string, acts []byte) {
		New(nodes, points, room)
		New(at, x, room)
		p := newPlayer(t, 1+nodes&7, 1+points&63, 20+room&0xfff)
		bytes := reader(acts[:min(len(acts), 200)])
		y := api.Tuple{Object: text, Relation: "viewer", User: "user:ann"}
		for len(bytes) > 0 {
			p.act(&bytes)
			for _, i := range []int{at, x} {
				p.c.Up(i)
				p.c.Write(i, []api.Mutation{{Tuple: y}}, api.Condition{Tuple: y})
				p.c.Result(i)
				p.c.Spoil(i, x)
				p.c.Copy(i)
				p.c.Serves(i, x)
				p.c.Locks(i)
				p.c.Rows(i)
				p.c.Move(x, i)
			}
			if call, e := p.c.Fetch(x, text, text, rev); e == api.OK {
				p.c.Result(call)
			}
			if len(bytes)%8 == 0 {
				p.c.Drop(at)
				p.c.Deliver(x)
				p.c.Tick(at)
				p.c.Crash(at, x)
				p.c.Restart(at)
			}
		}
		p.c.Settle(int(rev))
	})
}
