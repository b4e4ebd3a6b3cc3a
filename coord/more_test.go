package coord

import (
	"fmt"
	"math"
	"math/rand"
	"reflect"
	"slices"
	"testing"

	"porter/api"
	"porter/log"
)

// P16.1, and P2: without room no coordinator is opened.
func TestNoRoomToOpen(t *testing.T) {
	probe, l := on(t, 100)
	Open(l, 3)
	for room := range probe.Size() + 1 {
		d, l := on(t, room)
		c, e := Open(l, 3)
		if full := room < probe.Size(); full != (c == nil) || full != (e == api.ErrFull) || full != (d.Size() == 0) {
			t.Errorf("room %d: %v, %v, %d bytes", room, c, e, d.Size())
		}
	}
}

// P16.4, and P2: without room nothing is committed, and nothing has changed.
func TestNoRoomToCommit(t *testing.T) {
	probe, c, a := begun(t, 0, 2)
	opened := probe.Size()
	c.Commit(a, 5)
	size := probe.Size() - opened
	for spare := range size + 1 {
		d, l := on(t, opened+spare)
		c, _ := Open(l, 1)
		a := ready(t, c, 0, 2)
		wanted, told := api.ErrFull, "1 0 true, owed "
		if spare == size {
			wanted, told = api.OK, fmt.Sprintf("2 5 false, owed %d at 5 by [0 2]", a)
		}
		want(t, "Commit", c.Commit(a, 5), wanted)
		if tells(c, a) != told {
			t.Errorf("%d bytes left: %s, want %s", spare, tells(c, a), told)
		}
		if _, records := log.Open(d); (len(records) == 2) != (wanted == api.OK) {
			t.Errorf("%d bytes left: written %s", spare, texts(records))
		}
		if wanted == api.OK {
			continue
		}
		want(t, "a wrong Commit", c.Commit(a, 0), api.ErrRange)
		want(t, "Commit again", c.Commit(a, 5), api.ErrFull)
		want(t, "Abort", c.Abort(a), api.OK)
	}
}

// P16.4: without room a transaction isn't Done, but that a node has applied it stays.
func TestNoRoomToBeDone(t *testing.T) {
	probe, c, a := begun(t, 0, 2)
	c.Commit(a, 5)
	committed := probe.Size()
	c.Ack(a, 0)
	c.Ack(a, 2)
	size := probe.Size() - committed
	for spare := range size {
		d, l := on(t, committed+spare)
		c, _ := Open(l, 1)
		a := ready(t, c, 0, 2)
		want(t, "Commit", c.Commit(a, 5), api.OK)
		want(t, "Ack of the first", c.Ack(a, 0), api.OK)
		for _, node := range []int{2, 2, 0} {
			want(t, "Ack of the last", c.Ack(a, node), api.ErrFull)
			if told := fmt.Sprintf("2 5 false, owed %d at 5 by []", a); tells(c, a) != told || d.Size() != committed {
				t.Errorf("%d bytes left: %s, want %s", spare, tells(c, a), told)
			}
		}
		want(t, "Ack of another", c.Ack(a, 1), api.ErrRange)
		if len(c.Owed()[0].Nodes) != 0 {
			t.Errorf("%d bytes left: owed %s", spare, texts(c.Owed()))
		}
		// What is Committed is so behind a crash too, and owed by all.
		if _, records := log.Open(d); texts(records) != fmt.Sprintf("boot 1; %d at 5 by [0 2]", a) {
			t.Errorf("%d bytes left: written %s", spare, texts(records))
		}
	}
}

// P16.1: what others have in the same log is passed over, and stays.
func TestOneLogOfSeveral(t *testing.T) {
	other := api.Msg{Kind: 3, Id: id(1, 1), Rev: 44}
	d, l := on(t, 1000, other)
	c, _ := Open(l, 1, other)
	a := ready(t, c, 3)
	l.Add(other)
	want(t, "Commit", c.Commit(a, 5), api.OK)
	l.Add(other)
	want(t, "Ack", c.Ack(a, 3), api.OK)
	c, records := again(t, d)
	if tells(c, a) != "3 5 false, owed " {
		t.Errorf("behind a crash: %s", tells(c, a))
	}
	var kinds []int
	for _, r := range records {
		kinds = append(kinds, r.Kind)
	}
	if !slices.Equal(kinds, []int{3, 5, 3, 6, 3, 7}) {
		t.Errorf("written: Kinds %d", kinds)
	}
}

// P2: what is handed in is neither changed nor kept, and what is answered is new memory.
func TestMemory(t *testing.T) {
	records, kept := []api.Msg{boot(1), commit(id(1, 1), 4, 0, 6), commit(id(1, 2), 5, 1)}, []api.Msg{boot(1), commit(id(1, 1), 4, 0, 6), commit(id(1, 2), 5, 1)}
	_, c := of(t, records...)
	nodes := append(make([]int, 0, 9), 3, 1, 3)
	a, _ := c.Begin(nodes...)
	if !reflect.DeepEqual(records, kept) || !slices.Equal(nodes[:9], []int{3, 1, 3, 0, 0, 0, 0, 0, 0}) {
		t.Errorf("changed: %v, %d", records, nodes[:9])
	}
	for _, r := range records {
		clear(r.Nodes)
	}
	clear(records)
	clear(nodes)
	want(t, "Vote", c.Vote(a, 3, true), api.OK)
	want(t, "Vote", c.Vote(a, 1, true), api.OK)
	want(t, "Commit", c.Commit(a, 6), api.OK)
	told := fmt.Sprintf("%d at 4 by [0 6]; %d at 5 by [1]; %d at 6 by [1 3]", id(1, 1), id(1, 2), a)
	first, second := c.Owed(), c.Owed()
	for i := range first {
		list := first[i].Nodes
		clear(list[:cap(list)])
		first[i].Nodes = append(list[:0], 7, 7, 7)
	}
	clear(first[:cap(first)])
	if texts(second) != told || texts(c.Owed()) != told {
		t.Errorf("shared memory: %s, %s, want %s", texts(second), texts(c.Owed()), told)
	}
	c.Ack(a, 1)
	if texts(second) != told {
		t.Errorf("an answer is kept: %s", texts(second))
	}
}

// P16.1 and P16.5: many transactions are committed and done, whichever order they have.
func TestManyCommits(t *testing.T) {
	const many = 200000
	records := []api.Msg{boot(1)}
	for i := range int64(many) {
		records = append(records, commit(id(1, i+1), i+1, int(i%8)))
	}
	for i := range int64(many - 1) {
		records = append(records, done(id(1, i*7919%many+1)))
	}
	_, l := on(t, 100)
	c, e := Open(l, 1, records...)
	last := (many-1)*int64(7919)%many + 1
	if told := texts(c.Owed()); e != api.OK || told != fmt.Sprintf("%d at %d by [%d]", id(1, last), last, (last-1)%8) {
		t.Errorf("owed: %s", told)
	}
	want(t, "the last one", c.Ack(id(1, last), int((last-1)%8)), api.OK)
	if state, rev := c.Status(id(1, 77)); state != Done || rev != 77 || len(c.Owed()) != 0 {
		t.Errorf("Status: %d, %d", state, rev)
	}
}

// model is a coordinator as P16.1 to P16.5 tell it, told once more in a plainer way: all transactions in a row, in the order in which they were begun, with the place of their commits.
type model struct {
	opened, begun int64
	trans         []*trans
	commits       int
}

type trans struct {
	id, rev  int64
	state    int
	nodes    []int
	said     map[int]bool // that have promised, or applied it
	commitAt int
}

func (m *model) find(id int64) *trans {
	for _, x := range m.trans {
		if x.id == id && x.state != Unknown {
			return x
		}
	}
	return &trans{}
}

func (x *trans) all() bool {
	for _, n := range x.nodes {
		if !x.said[n] {
			return false
		}
	}
	return true
}

// reopen: what is known behind a crash.
func (m *model) reopen() {
	m.opened, m.begun = m.opened+1, 0
	for _, x := range m.trans {
		x.said = map[int]bool{}
		if x.state == Active {
			x.state = Unknown
		}
	}
}

func (m *model) begin(id int64, nodes []int) {
	m.begun++
	x := &trans{id: id, state: Active, said: map[int]bool{}}
	for n := range api.MaxNodes {
		if slices.Contains(nodes, n) {
			x.nodes = append(x.nodes, n)
		}
	}
	m.trans = append(m.trans, x)
}

// judge: does a coordinator tell what the model does?
func (m *model) judge(t *testing.T, what string, c *Coord) {
	t.Helper()
	owed := make([]api.Msg, m.commits)
	for _, x := range m.trans {
		state, rev := c.Status(x.id)
		if state != x.state || rev != x.rev || c.Ready(x.id) != (state == Active && x.all()) {
			t.Fatalf("%s: Status(%d): %d, %d, ready %v, want %+v", what, x.id, state, rev, c.Ready(x.id), x)
		}
		if x.state == Committed {
			owed[x.commitAt] = commit(x.id, x.rev, slices.DeleteFunc(slices.Clone(x.nodes), func(n int) bool { return x.said[n] })...)
		}
	}
	owed = slices.DeleteFunc(owed, func(r api.Msg) bool { return r.Kind == 0 })
	if texts(c.Owed()) != texts(owed) {
		t.Fatalf("%s: owed %s, want %s", what, texts(c.Owed()), texts(owed))
	}
}

// reader takes numbers from bytes; behind the last one they are 0.
type reader []byte

func (r *reader) next(below int) int {
	if len(*r) == 0 {
		return 0
	}
	x := int((*r)[0])
	*r = (*r)[1:]
	return x % below
}

// vote, ack, abort and commit: the errors of these calls, and what follows from them in the model; Write's error is handed in.
func (m *model) vote(id int64, node int, yes bool) api.Errno {
	x := m.find(id)
	switch {
	case x.state != Active:
		return api.ErrMissing
	case !slices.Contains(x.nodes, node):
		return api.ErrRange
	case yes:
		x.said[node] = true
	default:
		x.state = Unknown
	}
	return api.OK
}

func (m *model) abort(id int64) api.Errno {
	x := m.find(id)
	if x.state != Active {
		return api.ErrMissing
	}
	x.state = Unknown
	return api.OK
}

func (m *model) commit(id, rev int64, write api.Errno) api.Errno {
	x := m.find(id)
	switch {
	case x.state != Active:
		return api.ErrMissing
	case !x.all():
		return api.ErrState
	case rev < 1 || rev > 1<<50:
		return api.ErrRange
	case write == api.OK:
		x.state, x.rev, x.said, x.commitAt = Committed, rev, map[int]bool{}, m.commits
		m.commits++
	}
	return write
}

func (m *model) ack(id int64, node int, write api.Errno) api.Errno {
	x := m.find(id)
	switch {
	case x.state == Done:
		return api.OK
	case x.state != Committed:
		return api.ErrMissing
	case !slices.Contains(x.nodes, node):
		return api.ErrRange
	}
	x.said[node] = true
	if !x.all() {
		return api.OK
	}
	if write == api.OK {
		x.state = Done
	}
	return write
}

// play: any calls of a coordinator, as some bytes say, on a disk with so many bytes of room, against its model.
func play(t *testing.T, room int, calls reader) {
	t.Helper()
	d, l := on(t, room)
	c, e := Open(l, 1)
	if e != api.OK {
		return
	}
	m := &model{opened: 1}
	pick := func() int64 {
		if len(m.trans) == 0 {
			return 7
		}
		return m.trans[max(0, len(m.trans)-1-calls.next(6))].id + int64(calls.next(30)/29)
	}
	for i := 0; len(calls) > 0; i++ {
		left, size := d.Left(), d.Size()
		var what string
		var e, wanted api.Errno
		full := func() api.Errno { // Write's error, as the call that was made tells it
			if e == api.ErrFull && left < 40 {
				return e
			}
			return api.OK
		}
		switch kind := calls.next(20); {
		case kind < 4:
			nodes := []int{calls.next(8), calls.next(8), calls.next(8)}[:1+calls.next(3)]
			var number int64
			number, e = c.Begin(nodes...)
			what = fmt.Sprintf("Begin(%d): %d", nodes, number)
			m.begin(number, nodes)
			if number != id(m.opened, m.begun) {
				t.Fatalf("call %d, %s, want %d", i, what, id(m.opened, m.begun))
			}
		case kind < 10:
			x, node, yes := pick(), calls.next(8), calls.next(12) > 0
			e, wanted = c.Vote(x, node, yes), m.vote(x, node, yes)
			what = fmt.Sprintf("Vote(%d, %d, %v)", x, node, yes)
		case kind < 11:
			x := pick()
			e, wanted = c.Abort(x), m.abort(x)
			what = fmt.Sprintf("Abort(%d)", x)
		case kind < 14:
			x, rev := pick(), int64(calls.next(50))
			e = c.Commit(x, rev)
			wanted = m.commit(x, rev, full())
			what = fmt.Sprintf("Commit(%d, %d)", x, rev)
		case kind < 19:
			x, node := pick(), calls.next(8)
			e = c.Ack(x, node)
			wanted = m.ack(x, node, full())
			what = fmt.Sprintf("Ack(%d, %d)", x, node)
		default:
			if left < 40 {
				return
			}
			c, _ = again(t, d)
			m.reopen()
			what = "a crash"
		}
		if e != wanted || d.Durable() != d.Size() || e != api.OK && d.Size() != size {
			t.Fatalf("call %d, %s: %v, want %v", i, what, e, wanted)
		}
		m.judge(t, fmt.Sprintf("call %d, %s", i, what), c)
	}
}

// P16.1 to P16.5, and P2: any calls, one behind the other.
func TestAnyCalls(t *testing.T) {
	r := rand.New(rand.NewSource(16))
	for range 2000 {
		calls := make(reader, r.Intn(800))
		r.Read(calls)
		play(t, 40+r.Intn(2000), calls)
	}
}

// P1: any records and any calls.
func FuzzNothingPanics(f *testing.F) {
	f.Add(300, 6, int64(7), int64(3), 2, 9, []byte{0, 1, 5, 2, 1, 0, 6, 5, 1, 3, 9})
	f.Add(0, 7, int64(math.MinInt64), int64(math.MaxInt64), math.MinInt, -1, []byte{})
	f.Add(90, 5, int64(0), int64(-1), 64, math.MaxInt, []byte{9, 9, 9})
	f.Fuzz(func(t *testing.T, room, kind int, id, rev int64, node, other int, calls []byte) {
		play(t, room&0xfff, calls)
		_, l := on(t, room&0xff)
		r := api.Msg{Kind: kind, Id: id, Rev: rev, Nodes: []int{node, other, node}}
		records := []api.Msg{r, commit(id, rev, other, node), r, done(^id), done(id), commit(id, rev, node), commit(^id, rev), r, {}}
		c, e := Open(l, node, records...)
		if (node < 0 || node >= 8) != (e == api.ErrRange) || (c == nil) != (e != api.OK) {
			t.Errorf("Open of node %d: %v", node, e)
		}
		if c, e = Open(l, 1, records...); e != api.OK {
			return
		}
		number, e := c.Begin(node, other)
		if e == api.OK {
			if state, _ := c.Status(number); state != Active && number != id && number != ^id {
				t.Errorf("Begin: %d is %d", number, state)
			}
		}
		for _, x := range []int64{number, id, ^id} {
			c.Vote(x, node, true)
			c.Vote(x, other, true)
			if c.Ready(x) && c.Commit(x, rev) == api.OK && (rev < 1 || rev > api.MaxRev) {
				t.Errorf("Commit at %d", rev)
			}
			c.Ack(x, node)
			c.Ack(x, other)
			c.Vote(x, node, false)
			c.Abort(x)
			if state, _ := c.Status(x); state == Active {
				t.Errorf("%d is Active behind all", x)
			}
		}
		c.Owed()
	})
}
