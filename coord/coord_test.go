package coord

import (
	"fmt"
	"math"
	"reflect"
	"slices"
	"strings"
	"testing"

	"porter/api"
	"porter/disk"
	"porter/log"
)

// on: a disk with room for so many bytes, and a log with these records on it.
func on(t *testing.T, size int, records ...api.Msg) (*disk.Disk, *log.Log) {
	t.Helper()
	d, e := disk.New(size)
	if e != api.OK {
		t.Fatalf("disk.New(%d): %v", size, e)
	}
	l, _ := log.Open(d)
	for _, r := range records {
		if e := l.Write(r); e != api.OK {
			t.Fatalf("Write: %v", e)
		}
	}
	return d, l
}

// of: the coordinator of node 1 that some records tell, which are on a disk with much room.
func of(t *testing.T, records ...api.Msg) (*disk.Disk, *Coord) {
	t.Helper()
	d, l := on(t, api.MaxDisk, records...)
	c, e := Open(l, 1, records...)
	if e != api.OK {
		t.Fatalf("Open: %v", e)
	}
	return d, c
}

// again: the coordinator of node 1 on a disk behind a crash that keeps nothing, and the records that it was opened with.
func again(t *testing.T, d *disk.Disk) (*Coord, []api.Msg) {
	t.Helper()
	d.Crash(0)
	l, records := log.Open(d)
	c, e := Open(l, 1, records...)
	if e != api.OK {
		t.Fatalf("Open behind a crash: %v", e)
	}
	return c, records
}

// boot, commit and done: records of a coordinator.
func boot(id int64) api.Msg { return api.Msg{Kind: 5, Id: id} }

func commit(id, rev int64, nodes ...int) api.Msg {
	return api.Msg{Kind: 6, Id: id, Rev: rev, Nodes: nodes}
}

func done(id int64) api.Msg { return api.Msg{Kind: 7, Id: id} }

// id: the number of a transaction of node 1.
func id(opened, begun int64) int64 { return 2<<40 + opened<<24 + begun }

// texts: messages, those of a coordinator in short.
func texts(records []api.Msg) string {
	var list []string
	for _, r := range records {
		switch {
		case reflect.DeepEqual(r, boot(r.Id)):
			list = append(list, fmt.Sprintf("boot %d", r.Id))
		case reflect.DeepEqual(r, done(r.Id)):
			list = append(list, fmt.Sprintf("done %d", r.Id))
		case reflect.DeepEqual(r, commit(r.Id, r.Rev, r.Nodes...)):
			list = append(list, fmt.Sprintf("%d at %d by %d", r.Id, r.Rev, r.Nodes))
		default:
			list = append(list, fmt.Sprintf("%v", r))
		}
	}
	return strings.Join(list, "; ")
}

// tells: what a coordinator tells of some transactions, and what it is owed.
func tells(c *Coord, ids ...int64) string {
	s := ""
	for _, id := range ids {
		state, rev := c.Status(id)
		s += fmt.Sprintf("%d %d %v, ", state, rev, c.Ready(id))
	}
	return s + "owed " + texts(c.Owed())
}

// want: is it this error?
func want(t *testing.T, what string, e, want api.Errno) {
	t.Helper()
	if e != want {
		t.Errorf("%s: %v, want %v", what, e, want)
	}
}

// begun: a coordinator with a new transaction of these nodes, which have promised.
func begun(t *testing.T, nodes ...int) (*disk.Disk, *Coord, int64) {
	t.Helper()
	d, c := of(t)
	id := ready(t, c, nodes...)
	return d, c, id
}

// ready: a new transaction of these nodes, which have promised.
func ready(t *testing.T, c *Coord, nodes ...int) int64 {
	t.Helper()
	id, e := c.Begin(nodes...)
	want(t, "Begin", e, api.OK)
	for _, n := range nodes {
		want(t, "Vote", c.Vote(id, n, true), api.OK)
	}
	return id
}

// P16.1
func TestOpen(t *testing.T) {
	for _, node := range []int{math.MinInt, -1, 8, 9, 256, math.MaxInt} {
		d, l := on(t, 100)
		if c, e := Open(l, node); c != nil || e != api.ErrRange || d.Size() != 0 {
			t.Errorf("node %d: %v, %v", node, c, e)
		}
	}
	for node := range 8 {
		d, l := on(t, 100)
		c, e := Open(l, node)
		if c == nil || e != api.OK || d.Durable() != d.Size() || tells(c, 0, 1) != "0 0 false, 0 0 false, owed " {
			t.Fatalf("node %d: %v", node, e)
		}
		if _, records := log.Open(d); texts(records) != "boot 1" {
			t.Errorf("node %d: written %s", node, texts(records))
		}
	}
	if KBoot != 5 || KCommit != 6 || KDone != 7 || Unknown != 0 || Active != 1 || Committed != 2 || Done != 3 || MaxBoots != 65536 || MaxBegun != 16777216 {
		t.Error("constants")
	}
}

// P16.1: what the records say.
func TestRecords(t *testing.T) {
	a, b, e := id(1, 1), id(1, 2), id(2, 1)
	other := func(kind int) api.Msg {
		return api.Msg{Kind: kind, Id: a, Rev: 50, Nodes: []int{3}, Flag: true}
	}
	for _, x := range []struct {
		records []api.Msg
		want    string
	}{
		{nil, "0 0 false, 0 0 false, 0 0 false, owed "},
		{[]api.Msg{boot(1)}, "0 0 false, 0 0 false, 0 0 false, owed "},
		{[]api.Msg{boot(1), commit(a, 5, 0, 2)}, fmt.Sprintf("2 5 false, 0 0 false, 0 0 false, owed %d at 5 by [0 2]", a)},
		{[]api.Msg{boot(1), commit(a, 5, 0, 2), done(a)}, "3 5 false, 0 0 false, 0 0 false, owed "},
		{[]api.Msg{boot(1), commit(b, 9, 7), commit(a, 5, 0, 2), boot(2), commit(e, 12, 1)}, fmt.Sprintf("2 5 false, 2 9 false, 2 12 false, owed %d at 9 by [7]; %d at 5 by [0 2]; %d at 12 by [1]", b, a, e)},
		{[]api.Msg{boot(1), commit(b, 9, 7), commit(a, 5, 0, 2), done(b), boot(2), boot(3), commit(e, 12, 1), done(a)}, fmt.Sprintf("3 5 false, 3 9 false, 2 12 false, owed %d at 12 by [1]", e)},
		{[]api.Msg{boot(1), commit(a, api.MaxRev, 0, 1, 2, 3, 4, 5, 6, 7)}, fmt.Sprintf("2 %d false, 0 0 false, 0 0 false, owed %d at %d by [0 1 2 3 4 5 6 7]", api.MaxRev, a, api.MaxRev)},
		// Other Kinds.
		{[]api.Msg{other(0), other(4), boot(1), other(3), other(8), other(-6), other(262), other(1)}, "0 0 false, 0 0 false, 0 0 false, owed "},
		{[]api.Msg{boot(1), commit(a, 5, 0, 2), other(1), other(2), other(13)}, fmt.Sprintf("2 5 false, 0 0 false, 0 0 false, owed %d at 5 by [0 2]", a)},
	} {
		d, l := on(t, 1000)
		c, err := Open(l, 1, x.records...)
		if err != api.OK {
			t.Fatalf("%s: %v", texts(x.records), err)
		}
		if text := tells(c, a, b, e); text != x.want {
			t.Errorf("%s: %s, want %s", texts(x.records), text, x.want)
		}
		boots := int64(1)
		for _, r := range x.records {
			if r.Kind == 5 {
				boots++
			}
		}
		if _, written := log.Open(d); texts(written) != fmt.Sprintf("boot %d", boots) {
			t.Errorf("%s: written %s", texts(x.records), texts(written))
		}
		if next, e := c.Begin(3); next != id(boots, 1) || e != api.OK {
			t.Errorf("%s: Begin: %d, %v, want %d", texts(x.records), next, e, id(boots, 1))
		}
	}
}

// P16.1: so many coordinators may be opened, and no more, whether there is room or not.
func TestBoots(t *testing.T) {
	var records []api.Msg
	for i := range int64(MaxBoots + 1) {
		records = append(records, boot(i+1))
	}
	for _, x := range []struct {
		boots, room int
		want        api.Errno
	}{
		{MaxBoots - 3, 100, api.OK}, {MaxBoots - 2, 100, api.OK}, {MaxBoots - 2, 0, api.ErrFull}, {MaxBoots - 1, 100, api.ErrRange}, {MaxBoots - 1, 0, api.ErrRange}, {MaxBoots, 100, api.ErrRange}, {MaxBoots + 1, 100, api.ErrRange},
	} {
		d, l := on(t, x.room)
		c, e := Open(l, 7, records[:x.boots]...)
		if e != x.want || (c != nil) != (e == api.OK) || (d.Size() > 0) != (e == api.OK) {
			t.Errorf("%d boots, room %d: %v, want %v", x.boots, x.room, e, x.want)
		}
		if e != api.OK {
			continue
		}
		if _, written := log.Open(d); len(written) != 1 || written[0].Id != int64(x.boots)+1 {
			t.Errorf("%d boots: written %s", x.boots, texts(written))
		}
		if id, e := c.Begin(0); id != 8<<40+(int64(x.boots)+1)<<24+1 || e != api.OK {
			t.Errorf("%d boots: Begin: %d, %v", x.boots, id, e)
		}
	}
}

// P16.2
func TestBegin(t *testing.T) {
	d, c := of(t, boot(1), boot(2))
	size := d.Size()
	for _, nodes := range [][]int{nil, {}, {-1}, {8}, {0, 8}, {8, 0}, {1, 2, -1}, {256}, {264}, {math.MinInt}, {math.MaxInt}} {
		if id, e := c.Begin(nodes...); id != 0 || e != api.ErrRange {
			t.Errorf("Begin(%d): %d, %v", nodes, id, e)
		}
	}
	for i, nodes := range [][]int{{0}, {7}, {1, 0, 1}, {0, 1, 2, 3, 4, 5, 6, 7}, {5, 5, 5, 5, 5, 5, 5, 5, 5, 5}, {1}} {
		number, e := c.Begin(nodes...)
		if number != id(3, int64(i)+1) || e != api.OK || tells(c, number, number+1) != "1 0 false, 0 0 false, owed " {
			t.Errorf("Begin(%d): %d, %v, then %s", nodes, number, e, tells(c, number, number+1))
		}
		for node := -1; node < 9; node++ {
			e := api.ErrRange
			if slices.Contains(nodes, node) {
				e = api.OK
			}
			want(t, fmt.Sprintf("Begin(%d): Vote of %d", nodes, node), c.Vote(number, node, true), e)
		}
		if !c.Ready(number) {
			t.Errorf("Begin(%d): not ready when all have promised", nodes)
		}
	}
	if d.Size() != size {
		t.Error("Begin writes")
	}
	for node := range 8 {
		_, l := on(t, 100)
		c, _ := Open(l, node)
		if id, e := c.Begin(3); id != int64(node+1)<<40+1<<24+1 || e != api.OK {
			t.Errorf("node %d: Begin: %d, %v", node, id, e)
		}
	}
}

// P16.2: so many transactions may be begun, whatever becomes of them, and as many by the next coordinator.
func TestManyBegun(t *testing.T) {
	d, c := of(t)
	for i := range int64(MaxBegun - 1) {
		number, e := c.Begin(0)
		if number != id(1, i+1) || e != api.OK {
			t.Fatalf("Begin %d: %d, %v", i, number, e)
		}
		if i&1 == 0 {
			e = c.Abort(number)
		} else {
			e = c.Vote(number, 0, false)
		}
		if e != api.OK {
			t.Fatalf("forgetting %d: %v", i, e)
		}
	}
	for range 2 {
		if number, e := c.Begin(0); number != 0 || e != api.ErrRange {
			t.Errorf("one more: %d, %v", number, e)
		}
	}
	c, _ = again(t, d)
	if number, e := c.Begin(0); number != id(2, 1) || e != api.OK {
		t.Errorf("behind a crash: %d, %v", number, e)
	}
}

// P16.3
func TestVote(t *testing.T) {
	d, c := of(t)
	size := d.Size()
	a, _ := c.Begin(2, 0)
	b, _ := c.Begin(1)
	for _, x := range []struct {
		id   int64
		node int
		yes  bool
		want api.Errno
		told string
	}{
		{a + 2, 2, true, api.ErrMissing, "1 0 false, 1 0 false, owed "}, {0, 2, true, api.ErrMissing, "1 0 false, 1 0 false, owed "}, {-a, 9, false, api.ErrMissing, "1 0 false, 1 0 false, owed "},
		{a, 1, true, api.ErrRange, "1 0 false, 1 0 false, owed "}, {a, 1, false, api.ErrRange, "1 0 false, 1 0 false, owed "}, {a, -1, false, api.ErrRange, "1 0 false, 1 0 false, owed "}, {a, 8, false, api.ErrRange, "1 0 false, 1 0 false, owed "}, {a, math.MinInt, false, api.ErrRange, "1 0 false, 1 0 false, owed "}, {a, 256, true, api.ErrRange, "1 0 false, 1 0 false, owed "},
		{a, 2, true, api.OK, "1 0 false, 1 0 false, owed "}, {a, 2, true, api.OK, "1 0 false, 1 0 false, owed "}, {a, 0, true, api.OK, "1 0 true, 1 0 false, owed "}, {a, 0, true, api.OK, "1 0 true, 1 0 false, owed "}, {a, 1, true, api.ErrRange, "1 0 true, 1 0 false, owed "},
		{b, 1, false, api.OK, "1 0 true, 0 0 false, owed "}, {b, 1, true, api.ErrMissing, "1 0 true, 0 0 false, owed "}, {b, 5, true, api.ErrMissing, "1 0 true, 0 0 false, owed "}, {b, 1, false, api.ErrMissing, "1 0 true, 0 0 false, owed "},
		// Against it behind a promise.
		{a, 2, false, api.OK, "0 0 false, 0 0 false, owed "}, {a, 0, true, api.ErrMissing, "0 0 false, 0 0 false, owed "},
	} {
		what := fmt.Sprintf("Vote(%d, %d, %v)", x.id, x.node, x.yes)
		want(t, what, c.Vote(x.id, x.node, x.yes), x.want)
		if told := tells(c, a, b); told != x.told {
			t.Errorf("%s: then %s, want %s", what, told, x.told)
		}
	}
	want(t, "Commit of what was voted against", c.Commit(a, 5), api.ErrMissing)
	if d.Size() != size {
		t.Error("Vote writes")
	}
}

// P16.3: what is forgotten is Unknown, and its number isn't given again.
func TestAbort(t *testing.T) {
	d, c, a := begun(t, 1, 2)
	b, _ := c.Begin(0)
	size := d.Size()
	want(t, "Abort of nothing", c.Abort(b+1), api.ErrMissing)
	want(t, "Abort of 0", c.Abort(0), api.ErrMissing)
	if tells(c, a, b) != "1 0 true, 1 0 false, owed " {
		t.Errorf("refused: %s", tells(c, a, b))
	}
	want(t, "Abort of what is ready", c.Abort(a), api.OK)
	want(t, "Abort of it again", c.Abort(a), api.ErrMissing)
	if tells(c, a, b) != "0 0 false, 1 0 false, owed " {
		t.Errorf("one of them: %s", tells(c, a, b))
	}
	want(t, "Abort of what isn't", c.Abort(b), api.OK)
	want(t, "Commit of it", c.Commit(b, 5), api.ErrMissing)
	want(t, "Vote of it", c.Vote(b, 0, true), api.ErrMissing)
	want(t, "Ack of it", c.Ack(b, 0), api.ErrMissing)
	if tells(c, a, b) != "0 0 false, 0 0 false, owed " || d.Size() != size {
		t.Errorf("both: %s", tells(c, a, b))
	}
	if next, e := c.Begin(0); next != b+1 || e != api.OK {
		t.Errorf("Begin: %d, %v, want %d", next, e, b+1)
	}
}

// P16.4: which error, and which of several.
func TestCommit(t *testing.T) {
	for _, rev := range []int64{1, 2, 5, 1 << 40, api.MaxRev - 1, api.MaxRev} {
		d, c, a := begun(t, 7, 0, 3, 0)
		b, _ := c.Begin(1, 2)
		c.Vote(b, 1, true)
		size, told := d.Size(), tells(c, a, b)
		for _, x := range []struct {
			id, rev int64
			want    api.Errno
		}{
			{b + 1, rev, api.ErrMissing}, {b + 1, 0, api.ErrMissing}, {0, rev, api.ErrMissing}, {b, rev, api.ErrState}, {b, 0, api.ErrState}, {b, api.MaxRev + 1, api.ErrState},
			{a, 0, api.ErrRange}, {a, -1, api.ErrRange}, {a, math.MinInt64, api.ErrRange}, {a, api.MaxRev + 1, api.ErrRange}, {a, math.MaxInt64, api.ErrRange},
		} {
			want(t, fmt.Sprintf("Commit(%d, %d)", x.id, x.rev), c.Commit(x.id, x.rev), x.want)
			if tells(c, a, b) != told || d.Size() != size {
				t.Errorf("Commit(%d, %d): %s", x.id, x.rev, tells(c, a, b))
			}
		}
		want(t, "Commit", c.Commit(a, rev), api.OK)
		told = fmt.Sprintf("2 %d false, 1 0 false, owed %d at %d by [0 3 7]", rev, a, rev)
		if tells(c, a, b) != told || d.Durable() != d.Size() {
			t.Errorf("Commit at %d: %s, want %s", rev, tells(c, a, b), told)
		}
		want(t, "Commit again", c.Commit(a, rev), api.ErrMissing)
		want(t, "Abort of a commit", c.Abort(a), api.ErrMissing)
		want(t, "Vote of a commit", c.Vote(a, 0, false), api.ErrMissing)
		if tells(c, a, b) != told {
			t.Errorf("behind the commit: %s, want %s", tells(c, a, b), told)
		}
		c, records := again(t, d)
		if texts(records) != fmt.Sprintf("boot 1; %d at %d by [0 3 7]", a, rev) {
			t.Errorf("written: %s", texts(records))
		}
		if told = strings.Replace(told, ", 1 0", ", 0 0", 1); tells(c, a, b) != told {
			t.Errorf("behind a crash: %s, want %s", tells(c, a, b), told)
		}
	}
}

// P16.4, and the chapter's example.
func TestAck(t *testing.T) {
	d, c := of(t)
	a, b := ready(t, c, 2, 0), ready(t, c, 0, 5)
	want(t, "Ack of what is Active", c.Ack(a, 0), api.ErrMissing)
	want(t, "Commit", c.Commit(a, 5), api.OK)
	want(t, "Commit", c.Commit(b, 6), api.OK)
	c, _ = again(t, d)
	size := d.Size()
	owed := func(nodes string) string {
		return fmt.Sprintf("2 5 false, 2 6 false, owed %d at 5 by [%s]; %d at 6 by [0 5]", a, nodes, b)
	}
	for _, x := range []struct {
		id   int64
		node int
		want api.Errno
		told string
	}{
		{a + 9, 0, api.ErrMissing, owed("0 2")}, {a + 9, 9, api.ErrMissing, owed("0 2")}, {0, 0, api.ErrMissing, owed("0 2")},
		{a, 1, api.ErrRange, owed("0 2")}, {a, 5, api.ErrRange, owed("0 2")}, {a, -1, api.ErrRange, owed("0 2")}, {a, 8, api.ErrRange, owed("0 2")}, {a, math.MinInt, api.ErrRange, owed("0 2")}, {a, math.MaxInt, api.ErrRange, owed("0 2")},
		{a, 0, api.OK, owed("2")}, {a, 0, api.OK, owed("2")}, {a, 1, api.ErrRange, owed("2")},
	} {
		want(t, fmt.Sprintf("Ack(%d, %d)", x.id, x.node), c.Ack(x.id, x.node), x.want)
		if tells(c, a, b) != x.told || d.Size() != size {
			t.Errorf("Ack(%d, %d): then %s, want %s", x.id, x.node, tells(c, a, b), x.told)
		}
	}
	// Only what all have applied is known behind a crash.
	c, _ = again(t, d)
	if tells(c, a, b) != owed("0 2") {
		t.Errorf("behind a crash: %s", tells(c, a, b))
	}
	want(t, "Ack", c.Ack(a, 2), api.OK)
	want(t, "Ack", c.Ack(a, 0), api.OK)
	told := fmt.Sprintf("3 5 false, 2 6 false, owed %d at 6 by [0 5]", b)
	if tells(c, a, b) != told || d.Durable() != d.Size() {
		t.Errorf("done: %s, want %s", tells(c, a, b), told)
	}
	size = d.Size()
	for _, node := range []int{0, 2, 1, -1, 8} {
		want(t, "Ack of what is Done", c.Ack(a, node), api.OK)
	}
	want(t, "Vote of what is Done", c.Vote(a, 0, true), api.ErrMissing)
	want(t, "Abort of what is Done", c.Abort(a), api.ErrMissing)
	want(t, "Commit of what is Done", c.Commit(a, 5), api.ErrMissing)
	if tells(c, a, b) != told || d.Size() != size {
		t.Errorf("behind it: %s, want %s", tells(c, a, b), told)
	}
	c, records := again(t, d)
	if last := records[len(records)-1]; tells(c, a, b) != told || texts([]api.Msg{last}) != fmt.Sprintf("done %d", a) {
		t.Errorf("behind a crash: %s, want %s; written %s", tells(c, a, b), told, texts(records))
	}
	want(t, "Ack of what was Done", c.Ack(a, 7), api.OK)
}

// P16.5: in the order of the commits, not of the Ids or the revisions.
func TestOwed(t *testing.T) {
	d, c := of(t)
	var ids []int64
	for i := range 6 {
		ids = append(ids, ready(t, c, i, i+1))
	}
	order := []int{3, 0, 5, 1, 4}
	for i, k := range order {
		want(t, "Commit", c.Commit(ids[k], int64(100-i*i%7)), api.OK)
	}
	for _, k := range []int{5, 0, 4} {
		want(t, "Ack", c.Ack(ids[k], k), api.OK)
		want(t, "Ack", c.Ack(ids[k], k+1), api.OK)
	}
	want(t, "Ack of one", c.Ack(ids[1], 1), api.OK)
	if told := texts(c.Owed()); told != fmt.Sprintf("%d at 100 by [3 4]; %d at 98 by [2]", ids[3], ids[1]) {
		t.Errorf("owed: %s", told)
	}
	c, _ = again(t, d)
	next := ready(t, c, 6)
	want(t, "Commit", c.Commit(next, 1), api.OK)
	if told := texts(c.Owed()); told != fmt.Sprintf("%d at 100 by [3 4]; %d at 98 by [1 2]; %d at 1 by [6]", ids[3], ids[1], next) {
		t.Errorf("behind a crash: owed %s", told)
	}
}
