package cluster

import (
	"fmt"
	"math"
	"slices"
	"strings"
	"testing"

	"porter/api"
	"porter/ring"
)

// made: a new cluster with much room.
func made(t *testing.T, nodes int) *Cluster {
	t.Helper()
	c, e := New(nodes, 8, api.MaxDisk)
	if e != api.OK {
		t.Fatalf("New: %v", e)
	}
	return c
}

// want: is it this error?
func want(t *testing.T, what string, e, want api.Errno) {
	t.Helper()
	if e != want {
		t.Errorf("%s: %v, want %v", what, e, want)
	}
}

// result: what has become of a call.
func result(t *testing.T, c *Cluster, call int) Outcome {
	t.Helper()
	o, e := c.Result(call)
	want(t, fmt.Sprintf("Result(%d)", call), e, api.OK)
	return o
}

// is: has this become of a call?
func is(t *testing.T, c *Cluster, call int, wanted Outcome) {
	t.Helper()
	if o := result(t, c, call); fmt.Sprint(o) != fmt.Sprint(wanted) {
		t.Errorf("call %d: %v, want %v", call, o, wanted)
	}
}

// settles: nothing is left to do.
func settles(t *testing.T, c *Cluster) {
	t.Helper()
	if !c.Settle(400) {
		t.Fatal("Settle: false")
	}
}

// object: an object of a slot; another one for each number.
func object(slot, n int) string {
	for i := 0; ; i++ {
		if o := fmt.Sprintf("doc:x%d", i); ring.Slot(o) == slot {
			if n--; n < 0 {
				return o
			}
		}
	}
}

// in: a tuple of a slot.
func in(slot, n int) api.Tuple {
	return api.Tuple{Object: object(slot, n), Relation: "viewer", User: "user:ann"}
}

// slotAt: the first slot that a node serves.
func slotAt(t *testing.T, c *Cluster, at int) int {
	t.Helper()
	for slot := range api.Slots {
		if c.Serves(at, slot) {
			return slot
		}
	}
	t.Fatalf("node %d serves no slot", at)
	return 0
}

// put and gone: mutations.
func put(list ...api.Tuple) []api.Mutation {
	var muts []api.Mutation
	for _, x := range list {
		muts = append(muts, api.Mutation{Tuple: x})
	}
	return muts
}

func gone(x api.Tuple) []api.Mutation { return []api.Mutation{{Delete: true, Tuple: x}} }

// writes: the number of a write that is taken.
func writes(t *testing.T, c *Cluster, at int, muts []api.Mutation, pre ...api.Condition) int {
	t.Helper()
	call, e := c.Write(at, muts, pre...)
	want(t, "Write", e, api.OK)
	return call
}

// done: a revision at which a write is committed that is made and settled.
func done(t *testing.T, c *Cluster, at int, muts ...api.Mutation) int64 {
	t.Helper()
	call := writes(t, c, at, muts)
	settles(t, c)
	o := result(t, c, call)
	if o.State != Done {
		t.Fatalf("Write: %v", o)
	}
	return o.Rev
}

// P19.1
func TestNew(t *testing.T) {
	for _, x := range []struct {
		nodes, points, room int
		want                api.Errno
	}{
		{0, 8, 1000, api.ErrRange}, {9, 8, 1000, api.ErrRange}, {-1, 8, -1, api.ErrRange}, {math.MaxInt, 8, 1000, api.ErrRange},
		{3, 0, 1000, api.ErrRange}, {3, 65, 1000, api.ErrRange}, {3, math.MinInt, 0, api.ErrRange},
		{3, 8, -1, api.ErrRange}, {3, 8, api.MaxDisk + 1, api.ErrRange}, {3, 8, math.MaxInt, api.ErrRange},
		{3, 8, 0, api.ErrFull}, {1, 1, 5, api.ErrFull},
		{1, 1, 100, api.OK}, {8, 64, 100, api.OK}, {3, 8, api.MaxDisk, api.OK},
	} {
		c, e := New(x.nodes, x.points, x.room)
		if e != x.want || (c == nil) != (e != api.OK) {
			t.Errorf("New(%d, %d, %d): %v, %v, want %v", x.nodes, x.points, x.room, c, e, x.want)
		}
		if c == nil {
			continue
		}
		first, _ := ring.New(x.nodes, x.points)
		if c.Nodes() != x.nodes || c.Len() != 0 || len(c.Commits()) != 0 {
			t.Errorf("New(%d, ..): %d nodes, %d packets, commits %v", x.nodes, c.Nodes(), c.Len(), c.Commits())
		}
		for at := -2; at < 10; at++ {
			if c.Up(at) != (at >= 0 && at < x.nodes) {
				t.Errorf("Up(%d) of %d: %v", at, x.nodes, c.Up(at))
			}
			for slot := -1; slot <= api.Slots; slot++ {
				owner := slot >= 0 && slot < api.Slots && first.Owners[slot] == at
				if c.Serves(at, slot) != owner {
					t.Errorf("Serves(%d, %d): %v", at, slot, !owner)
				}
			}
		}
		if closed, last, e := c.Closed(); closed != 0 || last != 0 || e != api.OK {
			t.Errorf("Closed: %d, %d, %v", closed, last, e)
		}
	}
}

// P19.1: at no node, and at one that isn't up.
func TestNoNode(t *testing.T) {
	c := made(t, 3)
	want(t, "Crash", c.Crash(1, 0), api.OK)
	for _, at := range []int{math.MinInt, -1, 1, 3, 8, math.MaxInt} {
		e := api.ErrRange
		if at == 1 {
			e = api.ErrDown
		}
		x := in(0, 0)
		_, got := c.Write(at, append(put(x, x), put(api.Tuple{})...))
		want(t, "Write", got, e)
		_, got = c.Snapshot(at)
		want(t, "Snapshot", got, e)
		_, got = c.Fetch(at, strings.Repeat("x", 999), "", -1)
		want(t, "Fetch", got, e)
		want(t, "Tick", c.Tick(at), e)
		want(t, "Crash", c.Crash(at, 5), e)
		rows, got := c.Rows(at)
		want(t, "Rows", got, e)
		if c.Up(at) || c.Serves(at, 0) || c.Locks(at) != 0 || len(rows) != 0 {
			t.Errorf("node %d: up %v, %v", at, c.Up(at), rows)
		}
	}
	if _, e := c.Result(0); e != api.ErrMissing {
		t.Errorf("a refused call has a number: %v", e)
	}
}

// P19.2: nothing goes on its way but by Tick and Deliver.
func TestLen(t *testing.T) {
	c := made(t, 3)
	a, b := slotAt(t, c, 1), slotAt(t, c, 2)
	writes(t, c, 1, put(in(a, 0), in(b, 0)))
	c.Snapshot(1)
	c.Fetch(1, object(b, 0), "viewer", 0)
	want(t, "Move", c.Move(a, 2), api.OK)
	want(t, "Crash", c.Crash(2, 0), api.OK)
	want(t, "Restart", c.Restart(2), api.OK)
	if c.Len() != 0 {
		t.Errorf("%d packets without a Tick", c.Len())
	}
	var sent int
	for i := range 4 {
		// What isn't answered is said again, but not each time.
		want(t, "Tick", c.Tick(1), api.OK)
		if sent = c.Len(); sent != 4*(1+i/2) {
			t.Errorf("%d packets behind Tick %d", sent, i)
		}
	}
	for range sent {
		want(t, "Deliver", c.Deliver(0), api.OK)
	}
	if c.Len() == 0 {
		t.Error("no packet behind a Deliver")
	}
	want(t, "Drop", c.Drop(c.Len()-1), api.OK)
	for c.Len() > 0 {
		c.Drop(0)
	}
	want(t, "Drop", c.Drop(0), api.ErrMissing)
}

// P19.3
func TestWrite(t *testing.T) {
	c := made(t, 3)
	x, y, z := in(0, 0), in(5, 0), in(9, 0)
	bad, worse := api.Tuple{Object: "doc", Relation: "viewer", User: "user:a"}, api.Tuple{Object: "doc:a", Relation: "", User: "user:a"}
	many := func(n int) []api.Mutation {
		var muts []api.Mutation
		for i := range n {
			muts = append(muts, api.Mutation{Tuple: api.Tuple{Object: fmt.Sprintf("doc:a%d", i), Relation: "viewer", User: "user:ann"}})
		}
		return muts
	}
	for i, w := range []struct {
		muts []api.Mutation
		pre  []api.Condition
		want api.Errno
	}{
		{append(put(bad, x), gone(x)...), nil, api.ErrTwice},
		{put(bad, worse, bad), nil, api.ErrTwice},
		{append(many(61), put(worse)...), nil, api.ErrName},
		{put(x, worse, bad), []api.Condition{{Tuple: bad}}, api.ErrName},
		{put(x), []api.Condition{{Tuple: y}, {Tuple: bad}, {Tuple: worse}}, api.ErrForm},
		{many(61), nil, api.ErrLong},
		{many(60), []api.Condition{{Tuple: x}}, api.ErrLong},
		{nil, nil, api.ErrRange},
		{[]api.Mutation{}, []api.Condition{}, api.ErrRange},
	} {
		if call, e := c.Write(i%3, w.muts, w.pre...); e != w.want || call != 0 {
			t.Errorf("Write %d: %d, %v, want %v", i, call, e, w.want)
		}
	}
	twice := []api.Condition{{Absent: true, Tuple: x}, {Absent: true, Tuple: x}}
	for i, w := range []struct {
		muts []api.Mutation
		pre  []api.Condition
		want Outcome
	}{
		{many(60), nil, Outcome{State: Done, Rev: 1}},
		{many(59), []api.Condition{{Tuple: many(60)[59].Tuple}}, Outcome{State: Done, Rev: 2}},
		{put(x, y), twice, Outcome{State: Done, Rev: 3}},
		{put(z), twice, Outcome{State: Failed, Code: api.ErrCondition}},
		{gone(x), []api.Condition{{Tuple: x}, {Tuple: y}, {Absent: true, Tuple: z}}, Outcome{State: Done, Rev: 4}},
		{nil, []api.Condition{{Absent: true, Tuple: x}, {Tuple: y}}, Outcome{State: Done, Rev: 5}},
		{nil, []api.Condition{{Tuple: x}, {Tuple: y}}, Outcome{State: Failed, Code: api.ErrCondition}},
		{gone(x), nil, Outcome{State: Done, Rev: 6}},
	} {
		call := writes(t, c, i%3, w.muts, w.pre...)
		if call != i {
			t.Fatalf("call %d has the number %d", i, call)
		}
		is(t, c, call, Outcome{})
		settles(t, c)
		is(t, c, call, w.want)
	}
	for _, call := range []int{math.MinInt, -1, 8, math.MaxInt} {
		if o, e := c.Result(call); e != api.ErrMissing || o.State != 0 {
			t.Errorf("Result(%d): %v, %v", call, o, e)
		}
	}
	if s := fmt.Sprint(commitsOf(c)); s != "[{0 1} {1 2} {2 3} {4 4} {5 5} {7 6}]" {
		t.Errorf("Commits: %s", s)
	}
}

// commitsOf: the calls that are committed, and their revisions.
func commitsOf(c *Cluster) []struct{ call, rev int } {
	var list []struct{ call, rev int }
	for _, x := range c.Commits() {
		list = append(list, struct{ call, rev int }{x.Call, int(x.Rev)})
	}
	return list
}

// P19.3 and P19.8: writes of one tuple at all nodes at once: each comes to something, and those that are done have a revision each.
func TestWritesThatMeet(t *testing.T) {
	c := made(t, 5)
	x := make([]api.Tuple, 5)
	for at := range x {
		x[at] = in(slotAt(t, c, at), 0)
	}
	var list []int
	for i := range 20 {
		y := slices.Clone(x)
		if i%2 == 0 {
			slices.Reverse(y)
		}
		list = append(list, writes(t, c, i%5, put(y...)))
	}
	settles(t, c)
	revs := map[int64]int{}
	for _, call := range list {
		switch o := result(t, c, call); {
		case o.State == Done:
			revs[o.Rev]++
		case o.State != Failed || o.Code != api.ErrLocked:
			t.Errorf("call %d: %v", call, o)
		}
	}
	if len(revs) < 5 || len(revs) != len(c.Commits()) {
		t.Errorf("%v; commits %v", revs, c.Commits())
	}
}

// P19.4
func TestQuestions(t *testing.T) {
	c := made(t, 3)
	first, e := c.Snapshot(2)
	want(t, "Snapshot", e, api.OK)
	settles(t, c)
	is(t, c, first, Outcome{State: Done})
	var muts []api.Mutation
	x := in(3, 0)
	for _, u := range []string{"user:bob", "user:ann", "group:g#member"} {
		x.User = u
		muts = append(muts, api.Mutation{Tuple: x})
	}
	rev := done(t, c, 0, muts...)
	done(t, c, 1, gone(x)...)
	for at := range 3 {
		for _, f := range []struct {
			object, relation string
			rev              int64
			want             Outcome
		}{
			{x.Object, "viewer", rev, Outcome{State: Done, Users: []string{"group:g#member", "user:ann", "user:bob"}}},
			{x.Object, "viewer", rev + 1, Outcome{State: Done, Users: []string{"user:ann", "user:bob"}}},
			{x.Object, "viewer", 0, Outcome{State: Done}},
			{x.Object, "owner", rev, Outcome{State: Done}},
			{"", "", rev, Outcome{State: Done}},
			{strings.Repeat("\xff", 128), strings.Repeat("#", 128), 0, Outcome{State: Done}},
			{x.Object, "viewer", -1, Outcome{State: Failed, Code: api.ErrRange}},
			{x.Object, "viewer", math.MinInt64, Outcome{State: Failed, Code: api.ErrRange}},
		} {
			call, e := c.Fetch(at, f.object, f.relation, f.rev)
			want(t, "Fetch", e, api.OK)
			is(t, c, call, Outcome{})
			settles(t, c)
			is(t, c, call, f.want)
		}
		call, e := c.Fetch(at, x.Object, "viewer", math.MaxInt64)
		settles(t, c)
		if o := result(t, c, call); e != api.OK || o.State == Pending {
			t.Errorf("Fetch at a revision that isn't closed: %v, %v", e, o)
		}
		call, e = c.Snapshot(at)
		settles(t, c)
		want(t, "Snapshot", e, api.OK)
		is(t, c, call, Outcome{State: Done, Rev: rev + 1})
		for _, text := range []string{strings.Repeat("x", 129), strings.Repeat("x", 1<<20)} {
			_, e = c.Fetch(at, text, "viewer", 0)
			want(t, "Fetch of a long object", e, api.ErrLong)
			_, e = c.Fetch(at, x.Object, text, 0)
			want(t, "Fetch of a long relation", e, api.ErrLong)
		}
	}
}

// long: a user whose name is as long as can be.
func long(n int) string {
	id := fmt.Sprintf("%032d", n)
	return strings.Repeat("u", 32) + ":" + id + "#" + strings.Repeat("r", 32)
}

// P19.4: users that are more than one message can tell.
func TestFetchOfMany(t *testing.T) {
	c := made(t, 3)
	x := in(slotAt(t, c, 1), 0)
	var users []string
	for i := 0; i < 400; i += 50 {
		var muts []api.Mutation
		for n := range 50 {
			x.User = long(i + n)
			users = append(users, x.User)
			muts = append(muts, api.Mutation{Tuple: x})
		}
		rev := done(t, c, 2, muts...)
		for at := range 3 {
			call, e := c.Fetch(at, x.Object, x.Relation, rev)
			want(t, "Fetch", e, api.OK)
			settles(t, c)
			is(t, c, call, Outcome{State: Done, Users: users})
		}
	}
}

// P19.4: a Fetch of which each packet comes twice, and in any order, while the slot moves.
func TestFetchOfManyWhileAllGoesWrong(t *testing.T) {
	c := made(t, 3)
	slot := slotAt(t, c, 1)
	x := in(slot, 0)
	var users []string
	var muts []api.Mutation
	for i := range 180 {
		x.User = fmt.Sprintf("user:u%03d", i)
		users = append(users, x.User)
		if muts = append(muts, api.Mutation{Tuple: x}); len(muts) == 60 {
			done(t, c, 1, muts...)
			muts = nil
		}
	}
	closed, _, _ := c.Closed()
	call, _ := c.Fetch(0, x.Object, x.Relation, closed)
	want(t, "Move", c.Move(slot, 2), api.OK)
	for i := 0; result(t, c, call).State == Pending && i < 500; i++ {
		c.Tick(i % 3)
		for range 3 {
			c.Copy(c.Len() / 2)
			c.Deliver(c.Len() - 1)
			c.Deliver(c.Len() / 3)
		}
		for c.Len() > 100 {
			c.Drop(0)
		}
	}
	if o := result(t, c, call); o.State == Done && !slices.Equal(o.Users, users) {
		t.Errorf("%v", o)
	}
	settles(t, c)
}

// P19.5
func TestPackets(t *testing.T) {
	c := made(t, 2)
	for _, i := range []int{math.MinInt, -1, 0, 1, math.MaxInt} {
		want(t, "Deliver", c.Deliver(i), api.ErrMissing)
		want(t, "Drop", c.Drop(i), api.ErrMissing)
		want(t, "Copy", c.Copy(i), api.ErrMissing)
		want(t, "Spoil", c.Spoil(i, -1), api.ErrMissing)
	}
	call, _ := c.Snapshot(1)
	c.Tick(1)
	if c.Len() != 1 {
		t.Fatalf("%d packets", c.Len())
	}
	want(t, "Spoil", c.Spoil(0, -1), api.ErrRange)
	want(t, "Spoil", c.Spoil(0, math.MaxInt), api.ErrRange)
	want(t, "Spoil", c.Spoil(1, 0), api.ErrMissing)
	want(t, "Copy", c.Copy(0), api.OK)
	want(t, "Spoil", c.Spoil(0, 3), api.OK)
	want(t, "Spoil", c.Spoil(0, 3), api.ErrTwice)
	want(t, "Spoil", c.Spoil(0, -1), api.ErrTwice)
	want(t, "Copy", c.Copy(0), api.OK)
	want(t, "Spoil of a copy", c.Spoil(2, 9), api.ErrTwice)
	for range 2 {
		c.Crash(0, 0)
		want(t, "Deliver", c.Deliver(1), api.OK) // the copy that was made ahead comes to nobody, and then the one that was made behind
		c.Restart(0)
	}
	want(t, "Deliver", c.Deliver(0), api.OK)
	if c.Len() != 0 {
		t.Errorf("%d packets", c.Len())
	}
	is(t, c, call, Outcome{})
	settles(t, c)
	is(t, c, call, Outcome{State: Done})
}

// P19.5: whichever bit is turned: the packet counts for nothing, and its copies too, but not those made ahead.
func TestSpoil(t *testing.T) {
	for bit := range 400 {
		c := made(t, 1)
		call, _ := c.Snapshot(0)
		c.Tick(0)
		c.Copy(0)
		if e := c.Spoil(0, bit); e == api.ErrRange && bit >= 8*20 {
			break
		} else if e != api.OK {
			t.Fatalf("Spoil(0, %d): %v", bit, e)
		}
		c.Copy(0)
		want(t, "Spoil", c.Spoil(2, bit), api.ErrTwice)
		c.Deliver(2)
		c.Deliver(0)
		if c.Len() != 1 {
			t.Fatalf("bit %d: a spoilt packet is answered", bit)
		}
		want(t, "Spoil", c.Spoil(0, bit), api.OK)
		c.Deliver(0)
		is(t, c, call, Outcome{})
		settles(t, c)
		is(t, c, call, Outcome{State: Done})
	}
}

// P19.5: 4096 packets at most are on their way.
func TestCopyOfTooMany(t *testing.T) {
	c := made(t, 2)
	c.Snapshot(1)
	c.Tick(1)
	for range 4095 {
		want(t, "Copy", c.Copy(0), api.OK)
	}
	want(t, "Copy", c.Copy(0), api.ErrFull)
	call := writes(t, c, 0, put(in(0, 0)))
	want(t, "Tick", c.Tick(0), api.OK)
	if c.Len() != 4096 {
		t.Errorf("%d packets", c.Len())
	}
	settles(t, c)
	is(t, c, call, Outcome{State: Done, Rev: 1})
}

// P19.6
func TestCrash(t *testing.T) {
	c := made(t, 3)
	slot := slotAt(t, c, 2)
	x := in(slot, 0)
	done(t, c, 0, put(x)...)
	w := writes(t, c, 2, put(in(slot, 1)))
	s, _ := c.Snapshot(2)
	f, _ := c.Fetch(2, x.Object, "viewer", 1)
	other, _ := c.Snapshot(1)
	rows, _ := c.Rows(2)
	want(t, "Crash", c.Crash(2, 0), api.OK)
	for _, call := range []int{w, s, f} {
		is(t, c, call, Outcome{State: Lost})
	}
	is(t, c, other, Outcome{})
	if c.Up(2) || c.Serves(2, slot) || c.Locks(2) != 0 || len(c.Commits()) != 1 {
		t.Error("a node that is down")
	}
	for _, at := range []int{math.MinInt, -1, 3, math.MaxInt} {
		want(t, "Restart", c.Restart(at), api.ErrRange)
	}
	want(t, "Restart", c.Restart(0), api.ErrTwice)
	want(t, "Restart", c.Restart(2), api.OK)
	want(t, "Restart", c.Restart(2), api.ErrTwice)
	if again, e := c.Rows(2); e != api.OK || fmt.Sprint(again) != fmt.Sprint(rows) || len(rows) != 1 || !c.Serves(2, slot) {
		t.Errorf("behind a crash: %v, want %v", again, rows)
	}
	settles(t, c)
	for _, call := range []int{w, s, f} {
		is(t, c, call, Outcome{State: Lost})
	}
	is(t, c, other, Outcome{State: Done, Rev: 1})
	if len(c.Commits()) != 1 {
		t.Errorf("Commits: %v", c.Commits())
	}
}

// P19.6: what was promised is promised behind a crash of any node; a write that its node has committed is committed, whatever crashes then.
func TestCrashOfPromises(t *testing.T) {
	for crashed := range 8 {
		c := made(t, 3)
		x, y := in(slotAt(t, c, 1), 0), in(slotAt(t, c, 2), 0)
		call := writes(t, c, 0, put(x, y))
		for i := 0; result(t, c, call).State == Pending && i < 50; i++ {
			round(c)
		}
		is(t, c, call, Outcome{State: Done, Rev: 1})
		if c.Locks(1) != 1 || c.Locks(2) != 1 {
			t.Fatalf("%d and %d locks", c.Locks(1), c.Locks(2))
		}
		if closed, last, _ := c.Closed(); closed != 0 || last != 1 {
			t.Errorf("closed %d of %d with promises open", closed, last)
		}
		for at := range 3 {
			if crashed>>at&1 == 1 {
				want(t, "Crash", c.Crash(at, math.MinInt), api.OK)
				want(t, "Restart", c.Restart(at), api.OK)
			}
		}
		for at := range 2 {
			if c.Locks(1+at) != 1 {
				t.Errorf("node %d: %d locks behind a crash", 1+at, c.Locks(1+at))
			}
		}
		is(t, c, call, Outcome{State: Done, Rev: 1})
		settles(t, c)
		for at, z := range []api.Tuple{x, y} {
			rows, _ := c.Rows(1 + at)
			if len(rows) != 1 || rows[0] != (api.Row{Tuple: z, Since: 1}) {
				t.Errorf("node %d: %v", 1+at, rows)
			}
		}
		if closed, last, _ := c.Closed(); closed != 1 || last != 1 {
			t.Errorf("closed %d of %d", closed, last)
		}
	}
}

// P19.6 and P19.9: a node that can't write its first records stays down, and its disk is as it was.
func TestRestartWithoutRoom(t *testing.T) {
	c, e := New(2, 8, 50)
	want(t, "New", e, api.OK)
	starts := 0
	for c.Up(0) && starts < 9 {
		want(t, "Crash", c.Crash(0, 0), api.OK)
		if e := c.Restart(0); e != api.OK {
			want(t, "Restart", e, api.ErrFull)
		}
		starts++
	}
	if starts < 2 || starts == 9 {
		t.Errorf("started %d times with 50 bytes", starts)
	}
	want(t, "Crash", c.Crash(1, 0), api.OK)
	for range 3 {
		want(t, "Restart", c.Restart(0), api.ErrFull)
		if c.Up(0) || c.Settle(10) {
			t.Error("up without room")
		}
	}
	if !c.Up(1) {
		t.Error("Settle has not started what could be")
	}
	_, _, e = c.Closed()
	want(t, "Closed", e, api.ErrDown)
	want(t, "Move", c.Move(0, 9), api.ErrDown)
	if n := len(c.Commits()); n != 0 {
		t.Errorf("%d commits", n)
	}
}

// P19.6: calls of a node that nobody answers are given up, and what they held is free then.
func TestPatience(t *testing.T) {
	c := made(t, 3)
	x, y := in(slotAt(t, c, 1), 0), in(slotAt(t, c, 2), 0)
	want(t, "Crash", c.Crash(2, 0), api.OK)
	call := writes(t, c, 0, put(x, y))
	f, _ := c.Fetch(0, y.Object, "viewer", 0)
	for range 10 {
		round(c)
	}
	is(t, c, call, Outcome{})
	is(t, c, f, Outcome{})
	if c.Locks(1) != 1 {
		t.Errorf("%d locks", c.Locks(1))
	}
	for i := 0; i < 100 && c.Locks(1) > 0; i++ {
		round(c)
	}
	is(t, c, call, Outcome{State: Failed, Code: api.ErrUnavailable})
	is(t, c, f, Outcome{State: Failed, Code: api.ErrUnavailable})
	other := writes(t, c, 1, put(x))
	for range 10 {
		round(c)
	}
	is(t, c, other, Outcome{State: Done, Rev: 1})
	settles(t, c)
	is(t, c, call, Outcome{State: Failed, Code: api.ErrUnavailable})
}

// P19.6: a node that hears nobody gives up each of its calls.
func TestPatienceOfAll(t *testing.T) {
	c := made(t, 2)
	slot := slotAt(t, c, 0)
	want(t, "Crash", c.Crash(0, 0), api.OK)
	list := []int{writes(t, c, 1, put(in(slotAt(t, c, 1), 0))), writes(t, c, 1, put(in(slot, 0)))}
	s, _ := c.Snapshot(1)
	f, _ := c.Fetch(1, object(slot, 0), "viewer", 0)
	for range 300 {
		c.Tick(1)
	}
	for _, call := range append(list, s, f) {
		is(t, c, call, Outcome{State: Failed, Code: api.ErrUnavailable})
	}
	settles(t, c)
	if len(c.Commits()) != 0 {
		t.Errorf("Commits: %v", c.Commits())
	}
}

// P19.3: a write waits for locks.
func TestWriteWaitsForLocks(t *testing.T) {
	c := made(t, 3)
	x := in(slotAt(t, c, 1), 0)
	first := writes(t, c, 1, put(x))
	round(c)
	round(c)
	want(t, "Crash", c.Crash(0, 0), api.OK)
	second := writes(t, c, 2, put(x))
	for range 16 {
		round(c)
	}
	is(t, c, second, Outcome{})
	settles(t, c)
	is(t, c, first, Outcome{State: Done, Rev: 1})
	is(t, c, second, Outcome{State: Done, Rev: 2})
}

// P19.3 and P19.6: but not for ever.
func TestWriteGivesUpLocks(t *testing.T) {
	c := made(t, 3)
	x := in(slotAt(t, c, 1), 0)
	first := writes(t, c, 2, put(x))
	round(c)
	round(c)
	want(t, "Crash", c.Crash(2, 0), api.OK)
	second := writes(t, c, 0, put(x))
	for range 100 {
		round(c)
	}
	if c.Locks(1) != 1 {
		t.Errorf("%d locks, but who can tell what has become of them is down", c.Locks(1))
	}
	is(t, c, second, Outcome{State: Failed, Code: api.ErrLocked})
	settles(t, c)
	is(t, c, first, Outcome{State: Lost})
	done(t, c, 1, put(x)...)
}

// full: a cluster of two nodes of which the first has no room left, but is up.
func full(t *testing.T) *Cluster {
	t.Helper()
	starts := -1
	for c, _ := New(2, 8, 500); c.Up(0); starts++ {
		c.Crash(0, 0)
		c.Restart(0)
	}
	c, _ := New(2, 8, 500)
	for range starts {
		want(t, "Crash", c.Crash(0, 0), api.OK)
		want(t, "Restart", c.Restart(0), api.OK)
	}
	return c
}

// P19.3 and P19.9: where the oracle can't write, a write fails, and its promises are given back.
func TestWriteWithoutRevision(t *testing.T) {
	c := full(t)
	call := writes(t, c, 1, put(in(slotAt(t, c, 1), 0)))
	for range 3 {
		round(c)
	}
	if c.Locks(1) != 1 {
		t.Errorf("%d locks", c.Locks(1))
	}
	settles(t, c)
	is(t, c, call, Outcome{State: Failed, Code: api.ErrFull})
	call = writes(t, c, 1, put(in(slotAt(t, c, 0), 0)))
	settles(t, c)
	is(t, c, call, Outcome{State: Failed, Code: api.ErrFull})
	want(t, "Move", c.Move(slotAt(t, c, 1), 0), api.ErrFull)
	if !c.Settle(0) || len(c.Commits()) != 0 {
		t.Errorf("Commits: %v", c.Commits())
	}
}

// P19.3 and P19.4: what is written and asked while a slot moves is done, if nothing else goes wrong.
func TestCallsWhileASlotMoves(t *testing.T) {
	for rounds := range 14 {
		for at := range 3 {
			c := made(t, 3)
			slot := slotAt(t, c, 1)
			x, y := in(slot, 0), in(slot, 1)
			done(t, c, 0, put(x)...)
			want(t, "Move", c.Move(slot, 2), api.OK)
			for range rounds {
				round(c)
			}
			w := writes(t, c, at, put(y), api.Condition{Tuple: x})
			f, _ := c.Fetch(at, x.Object, x.Relation, 1)
			settles(t, c)
			is(t, c, w, Outcome{State: Done, Rev: 2})
			is(t, c, f, Outcome{State: Done, Users: []string{x.User}})
			if !c.Serves(2, slot) {
				t.Errorf("%d rounds: the move was undone", rounds)
			}
		}
	}
}

// P19.7: a move that begins as soon as another one has ended, of which its owner hears late, isn't undone.
func TestMoveBehindAnother(t *testing.T) {
	c := made(t, 3)
	a, b := slotAt(t, c, 1), slotAt(t, c, 2)
	want(t, "Move", c.Move(a, 2), api.OK)
	for i := 0; c.Move(b, 1) != api.OK && i < 1000; i++ {
		if c.Len() == 0 {
			for at := range 3 {
				c.Tick(at)
			}
		}
		c.Deliver(0)
	}
	c.Tick(0)
	for c.Len() > 0 {
		c.Deliver(c.Len() - 1)
	}
	settles(t, c)
	if !c.Serves(2, a) || !c.Serves(1, b) {
		t.Error("a move was undone")
	}
}

// P19.9: what was told of a move that couldn't be comes in once more while another one is under way, which is made.
func TestMoveWhenElderPacketsComeIn(t *testing.T) {
	c := made(t, 2)
	a, b := slotAt(t, c, 1), slotAt(t, c, 0)
	x := in(a, 0)
	for i := range 3 {
		var muts []api.Mutation
		for n := range 60 {
			x.User = long(60*i + n)
			muts = append(muts, api.Mutation{Tuple: x})
		}
		done(t, c, 0, muts...)
	}
	want(t, "Move", c.Move(a, 0), api.OK)
	c.Tick(0)
	c.Deliver(0)
	if c.Len() != 1 || c.Serves(1, a) {
		t.Fatalf("%d packets; the slot is served: %v", c.Len(), c.Serves(1, a))
	}
	for range 20 {
		c.Copy(0)
	}
	c.Deliver(0)
	late := c.Len() - 1
	for i := 0; c.Move(b, 1) != api.OK && i < 100; i++ {
		c.Tick(i % 2)
		for c.Len() > late {
			c.Deliver(late)
		}
	}
	for i := range 20 {
		c.Tick(i % 2)
		c.Deliver(0)
	}
	settles(t, c)
	if !c.Serves(1, a) || !c.Serves(1, b) {
		t.Errorf("served: %v, %v", c.Serves(1, a), c.Serves(1, b))
	}
}

// P19.4: a Fetch of which there is much to tell takes its time.
func TestFetchOfVeryMany(t *testing.T) {
	c := made(t, 2)
	x := in(slotAt(t, c, 0), 0)
	var users []string
	for i := range 100 {
		var muts []api.Mutation
		for n := range 60 {
			x.User = fmt.Sprintf("user:u%04d", 60*i+n)
			users = append(users, x.User)
			muts = append(muts, api.Mutation{Tuple: x})
		}
		writes(t, c, i%2, muts)
	}
	settles(t, c)
	closed, _, _ := c.Closed()
	call, _ := c.Fetch(1, x.Object, x.Relation, closed)
	settles(t, c)
	is(t, c, call, Outcome{State: Done, Users: users})
}

// P19.7
func TestMove(t *testing.T) {
	c := made(t, 3)
	slot := slotAt(t, c, 1)
	x := in(slot, 0)
	rev := done(t, c, 0, put(x)...)
	for _, to := range []int{math.MinInt, -1, 3, 8, math.MaxInt} {
		want(t, "Move", c.Move(slot, to), api.ErrRange)
	}
	for _, slot := range []int{math.MinInt, -1, 16, math.MaxInt} {
		want(t, "Move", c.Move(slot, 1), api.ErrRange)
	}
	want(t, "Move", c.Move(slot, 1), api.ErrTwice)
	want(t, "Move", c.Move(slot, 2), api.OK)
	want(t, "Move", c.Move(slot, 3), api.ErrRange)
	want(t, "Move", c.Move(slot, 1), api.ErrBusy)
	want(t, "Move", c.Move(99, 1), api.ErrBusy)
	if c.Settle(0) {
		t.Error("a move is under way, but nothing is left to do")
	}
	settles(t, c)
	for at := range 3 {
		rows, e := c.Rows(at)
		want(t, "Rows", e, api.OK)
		if c.Serves(at, slot) != (at == 2) || len(rows) != at/2 {
			t.Errorf("node %d: serves %v, %v", at, c.Serves(at, slot), rows)
		}
	}
	done(t, c, 1, gone(x)...)
	rows, _ := c.Rows(2)
	if len(rows) != 1 || rows[0] != (api.Row{Tuple: x, Since: rev, Until: rev + 1}) {
		t.Errorf("%v", rows)
	}
	rows[0].Tuple.Object = "changed"
	if again, _ := c.Rows(2); again[0].Tuple != x {
		t.Error("Rows shares what is kept")
	}
	want(t, "Crash", c.Crash(0, 0), api.OK)
	want(t, "Move", c.Move(99, 99), api.ErrDown)
	_, _, e := c.Closed()
	want(t, "Closed", e, api.ErrDown)
	settles(t, c)
	if closed, last, e := c.Closed(); closed != 2 || last != 2 || e != api.OK {
		t.Errorf("Closed: %d, %d, %v", closed, last, e)
	}
}

// P19.7 and P19.8: a move to a node that is down is undone, and so is one whose controller crashes; the slot is served again.
func TestMoveUndone(t *testing.T) {
	c := made(t, 3)
	slot := slotAt(t, c, 1)
	x := in(slot, 0)
	done(t, c, 0, put(x)...)
	for _, to := range []int{2, 0} {
		c.Crash(2, 0)
		want(t, "Move", c.Move(slot, to), api.OK)
		for i := 0; i < 20 && c.Serves(1, slot); i++ {
			round(c)
		}
		if c.Serves(1, slot) {
			t.Fatal("the slot isn't fenced")
		}
		if to == 0 {
			c.Crash(0, 0)
			c.Restart(0)
		}
		for i := 0; i < 200 && !c.Serves(1, slot); i++ {
			round(c)
		}
		if rows, _ := c.Rows(1); !c.Serves(1, slot) || len(rows) != 1 {
			t.Errorf("move to %d: serves %v, rows %v", to, c.Serves(1, slot), rows)
		}
		settles(t, c)
		done(t, c, 2, put(x)...)
	}
}

// P19.7 and P19.8: a slot with more rows than a message can tell isn't moved, and is served as it was.
func TestMoveOfMany(t *testing.T) {
	c := made(t, 2)
	slot := slotAt(t, c, 1)
	x := in(slot, 0)
	for i := range 3 {
		var muts []api.Mutation
		for n := range 60 {
			x.User = long(60*i + n)
			muts = append(muts, api.Mutation{Tuple: x})
		}
		done(t, c, 0, muts...)
	}
	want(t, "Move", c.Move(slot, 0), api.OK)
	if !c.Settle(12) {
		t.Error("what can't be told is waited for")
	}
	rows, _ := c.Rows(1)
	if !c.Serves(1, slot) || c.Serves(0, slot) || len(rows) != 180 {
		t.Errorf("%d rows; served: %v, %v", len(rows), c.Serves(0, slot), c.Serves(1, slot))
	}
}

// P19.9: a move of 60 rows, however long, there and back, with promises open in the slot when it begins.
func TestMoveOfSixty(t *testing.T) {
	c := made(t, 2)
	slot := slotAt(t, c, 1)
	x := api.Tuple{Relation: strings.Repeat("r", 32)}
	for i := 0; ring.Slot(x.Object) != slot || i == 0; i++ {
		x.Object = strings.Repeat("d", 32) + ":" + fmt.Sprintf("%032d", i)
	}
	var muts []api.Mutation
	for n := range 60 {
		x.User = long(n)
		muts = append(muts, api.Mutation{Tuple: x})
	}
	rev := done(t, c, 0, muts...)
	for i := range muts {
		muts[i].Delete = true
	}
	done(t, c, 1, muts...)
	for i := range 6 {
		want(t, "Move", c.Move(slot, i%2), api.OK)
		settles(t, c)
		rows, _ := c.Rows(i % 2)
		if !c.Serves(i%2, slot) || len(rows) != 60 || rows[59] != (api.Row{Tuple: x, Since: rev, Until: rev + 1}) {
			t.Errorf("move %d: %d rows, %v", i, len(rows), c.Serves(i%2, slot))
		}
	}
}

// P19.8: as long as a slot moves nobody serves it twice, whatever comes twice or late.
func TestMoveWhileAllComesLate(t *testing.T) {
	for late := range 12 {
		p := newPlayer(t, 3, 8, api.MaxDisk)
		slot := slotAt(t, p.c, 1)
		done(t, p.c, 0, put(in(slot, 0))...)
		p.writes[0] = wrote{muts: put(in(slot, 0))}
		want(t, "Move", p.c.Move(slot, 2), api.OK)
		for i := range 40 {
			p.c.Tick(i % 3)
			if i%12 == late {
				p.c.Crash(i%3, 0)
				p.c.Restart(i % 3)
			}
			for range p.c.Len() / 2 {
				p.c.Deliver(p.c.Len() - 1)
				p.judge()
			}
			if p.c.Len() < 100 {
				p.c.Copy(late)
			}
		}
		p.settle()
	}
}

// P19.9
func TestSettle(t *testing.T) {
	c := made(t, 2)
	for _, rounds := range []int{math.MinInt, -1, 0, 1, math.MaxInt} {
		if !c.Settle(rounds) {
			t.Errorf("Settle(%d) of a new cluster: false", rounds)
		}
	}
	call := writes(t, c, 1, put(in(0, 0), in(7, 0)))
	for _, rounds := range []int{math.MinInt, -1, 0} {
		if c.Settle(rounds) || c.Len() != 0 {
			t.Errorf("Settle(%d): true, or %d packets", rounds, c.Len())
		}
	}
	rounds := 0
	for ; !c.Settle(1) && rounds < 400; rounds++ {
		if o := result(t, c, call); o.State != Pending && o.State != Done {
			t.Fatalf("%v", o)
		}
	}
	is(t, c, call, Outcome{State: Done, Rev: 1})
	if rounds < 3 || rounds > 30 {
		t.Errorf("settled in %d rounds", rounds)
	}
	if closed, last, _ := c.Closed(); closed != 1 || last != 1 || c.Locks(0)+c.Locks(1) != 0 {
		t.Errorf("closed %d of %d", closed, last)
	}
	want(t, "Crash", c.Crash(0, 0), api.OK)
	if !c.Settle(0) || !c.Up(0) {
		t.Error("Settle(0) starts what is down")
	}
}

// P19.9: a promise of a write that failed long ago is made when its last packet comes in: a new write of the tuple, and a move of its slot, aren't hindered.
func TestWriteWhenElderPacketsComeIn(t *testing.T) {
	for copies := range 30 {
		c := made(t, 3)
		x, y := in(slotAt(t, c, 1), 0), in(slotAt(t, c, 2), 0)
		call := writes(t, c, 0, put(y), api.Condition{Tuple: x})
		c.Tick(0)
		for range copies {
			c.Copy(1)
		}
		want(t, "Deliver", c.Deliver(0), api.OK)
		want(t, "Deliver", c.Deliver(c.Len()-1), api.OK)
		is(t, c, call, Outcome{State: Failed, Code: api.ErrCondition})
		settles(t, c)
		if c.Len() == 0 {
			t.Fatal("no elder packet is on its way")
		}
		at := copies % 3
		if copies%4 == 0 {
			want(t, "Move", c.Move(ring.Slot(y.Object), 0), api.OK)
			settles(t, c)
			if !c.Serves(0, ring.Slot(y.Object)) {
				t.Error("the move wasn't made")
			}
			continue
		}
		pre := api.Condition{Absent: copies%2 == 0, Tuple: y}
		call = writes(t, c, at, put(x, y), pre)
		settles(t, c)
		if pre.Absent {
			is(t, c, call, Outcome{State: Done, Rev: 1})
		} else {
			is(t, c, call, Outcome{State: Failed, Code: api.ErrCondition})
		}
	}
}

// P19.9: Settle ends where it can't be.
func TestSettleWithFullDisks(t *testing.T) {
	ended := 0
	for room := 40; room < 700; room += 13 {
		p := newPlayer(t, 2, 8, room)
		for i := range 5 {
			call, e := p.c.Write(i%2, put(in(i, 0), in(i+5, 0)))
			want(t, "Write", e, api.OK)
			p.writes[call] = wrote{muts: put(in(i, 0), in(i+5, 0)), above: p.highest()}
			p.calls++
			settled := p.c.Settle(math.MaxInt)
			p.judge()
			if settled {
				p.judgeSettled()
				ended++
			}
		}
	}
	if ended == 0 {
		t.Error("no cluster ever settled")
	}
}

// P19.8: the most acts that P19.9 speaks of, of the longest tuples, all at once.
func TestMuchAtOnce(t *testing.T) {
	p := newPlayer(t, 5, 8, api.MaxDisk)
	for i := range 100 {
		var muts []api.Mutation
		for n := range 4 {
			x := api.Tuple{Object: fmt.Sprintf("doc:d%d", (i+n)%7), Relation: strings.Repeat("r", 32), User: long(i * n % 11)}
			muts = append(muts, api.Mutation{Delete: i%3 == 0, Tuple: x})
		}
		call, e := p.c.Write(i%5, muts)
		if e == api.ErrTwice {
			continue
		}
		want(t, "Write", e, api.OK)
		p.writes[call] = wrote{muts: muts}
		p.calls++
	}
	p.settle()
	if n := len(p.c.Commits()); n < 20 {
		t.Errorf("%d commits", n)
	}
}

// P2: what was handed in is neither changed nor kept, and what is answered is new.
func TestMemory(t *testing.T) {
	c := made(t, 2)
	x, y := in(2, 0), in(3, 0)
	muts := append(make([]api.Mutation, 0, 9), put(x, y)...)
	pre := append(make([]api.Condition, 0, 9), api.Condition{Absent: true, Tuple: x})
	call := writes(t, c, 1, muts, pre...)
	if fmt.Sprint(muts, pre) != fmt.Sprint(put(x, y), []api.Condition{{Absent: true, Tuple: x}}) || muts[:9][2] != (api.Mutation{}) || pre[:9][1] != (api.Condition{}) {
		t.Error("a Write changes what is handed in")
	}
	for i := range muts {
		muts[i] = api.Mutation{Delete: true, Tuple: in(9, 9)}
	}
	pre[0] = api.Condition{Tuple: y}
	settles(t, c)
	is(t, c, call, Outcome{State: Done, Rev: 1})
	f, _ := c.Fetch(0, x.Object, x.Relation, 1)
	settles(t, c)
	o := result(t, c, f)
	o.Users[0] = "changed"
	is(t, c, f, Outcome{State: Done, Users: []string{x.User}})
	commits := c.Commits()
	commits[0] = Commit{}
	if again := c.Commits(); again[0].Call != call || again[0].Rev != 1 || again[0].Id == 0 {
		t.Errorf("Commits: %v", again)
	}
}
