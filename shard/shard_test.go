package shard

import (
	"fmt"
	"math"
	"slices"
	"strings"
	"testing"

	"porter/api"
	"porter/disk"
	"porter/log"
	"porter/ring"
	"porter/tuple"
)

// here is the node of these tests' shares, there is another one.
const (
	here  = 1
	there = 2
)

// obj: the n-th object of a slot.
func obj(slot, n int) string {
	for i := 0; ; i++ {
		s := fmt.Sprintf("doc:%d", i)
		if ring.Slot(s) != slot {
			continue
		}
		if n == 0 {
			return s
		}
		n--
	}
}

// tup: a tuple of the n-th object of a slot.
func tup(slot, n int) api.Tuple {
	return api.Tuple{Object: obj(slot, n), Relation: "viewer", User: "user:ann"}
}

// put: a message of a transaction, by the epoch 0, which puts tuples.
func put(id int64, tuples ...api.Tuple) api.Msg {
	m := api.Msg{Kind: 3, From: 4, Id: id}
	for _, x := range tuples {
		m.Muts = append(m.Muts, api.Mutation{Tuple: x})
	}
	return m
}

// absent: the same, which asks that tuples aren't there.
func absent(id int64, tuples ...api.Tuple) api.Msg {
	m := api.Msg{Kind: 3, From: 4, Id: id}
	for _, x := range tuples {
		m.Pre = append(m.Pre, api.Condition{Absent: true, Tuple: x})
	}
	return m
}

// owned: a table of an epoch in which node here owns all slots but some.
func owned(epoch int64, others ...int) ring.Table {
	t := ring.Table{Epoch: epoch}
	for slot := range t.Owners {
		t.Owners[slot] = here
	}
	for _, slot := range others {
		t.Owners[slot] = there
	}
	return t
}

// row: a row of the n-th object of a slot.
func row(slot, n int, since, until int64) api.Row {
	return api.Row{Tuple: tup(slot, n), Since: since, Until: until}
}

// on: a disk with room for so many bytes, and a log with these records on it.
func on(t *testing.T, size int, records ...api.Msg) (*disk.Disk, *log.Log) {
	t.Helper()
	d, e := disk.New(size)
	if e != api.OK {
		t.Fatalf("disk.New(%d): %v", size, e)
	}
	l, _ := log.Open(d)
	for _, r := range records {
		if e := l.Write(r); e != api.OK {
			t.Fatalf("Write: %v", e)
		}
	}
	return d, l
}

// of: the share of node here, by a first table, on a disk with much room.
func of(t *testing.T, first ring.Table) (*disk.Disk, *Shard) {
	t.Helper()
	d, l := on(t, api.MaxDisk)
	s, e := New(l, here, first)
	if e != api.OK {
		t.Fatalf("New: %v", e)
	}
	return d, s
}

// again: the share on a disk behind a crash that keeps nothing, and the records there.
func again(d *disk.Disk, first ring.Table) (*Shard, []api.Msg) {
	d.Crash(0)
	l, records := log.Open(d)
	s, _ := New(l, here, first)
	s.Replay(records...)
	return s, records
}

// reopened: the share of a node by the zero table, on a disk behind a crash that keeps nothing.
func reopened(d *disk.Disk, node int) *Shard {
	d.Crash(0)
	l, records := log.Open(d)
	s, _ := New(l, node, ring.Table{})
	s.Replay(records...)
	return s
}

// must: this is done without an error.
func must(t *testing.T, list ...api.Errno) {
	t.Helper()
	for i, e := range list {
		if e != api.OK {
			t.Fatalf("the call %d of %d: %v", i+1, len(list), e)
		}
	}
}

// commit: some tuples are put at a revision, by a transaction of that number.
func commit(t *testing.T, s *Shard, rev int64, tuples ...api.Tuple) {
	t.Helper()
	m := put(rev, tuples...)
	table, _ := s.Table()
	m.Epoch = table.Epoch
	must(t, s.Prepare(m), s.Decide(rev, true, rev))
}

// rowsText: rows in short.
func rowsText(rows []api.Row) string {
	var list []string
	for _, r := range rows {
		list = append(list, fmt.Sprintf("%s %d-%d", tuple.Print(r.Tuple), r.Since, r.Until))
	}
	return strings.Join(list, "; ")
}

// served: the slots that are served.
func served(s *Shard) []int {
	var list []int
	for slot := range api.Slots {
		if s.Serves(slot) {
			list = append(list, slot)
		}
	}
	return list
}

// all: all that a share tells, but for the moves for which slots are fenced and rows came in.
func all(s *Shard) string {
	table, version := s.Table()
	text := fmt.Sprintf("table %v of %d\nserved %v\nrows %s\npending", table, version, served(s), rowsText(s.Rows()))
	for _, m := range s.Pending() {
		text += fmt.Sprintf(" %v", m)
	}
	text += "\ndecided"
	for id := range int64(30) {
		if s.Decided(id) {
			text += fmt.Sprintf(" %d", id)
		}
	}
	return text
}

// P17.1: which nodes and tables, and how a new share is.
func TestNew(t *testing.T) {
	for _, x := range []struct {
		node  int
		first ring.Table
		want  api.Errno
	}{
		{0, ring.Table{}, api.OK}, {7, ring.Table{}, api.OK}, {8, ring.Table{}, api.ErrRange}, {-1, ring.Table{}, api.ErrRange}, {math.MinInt, ring.Table{}, api.ErrRange}, {math.MaxInt, ring.Table{}, api.ErrRange},
		{1, ring.Table{Owners: [16]int{15: 7}}, api.OK}, {1, ring.Table{Owners: [16]int{15: 8}}, api.ErrRange}, {1, ring.Table{Owners: [16]int{0: -1}}, api.ErrRange}, {0, ring.Table{Epoch: -1}, api.ErrRange}, {0, ring.Table{Epoch: math.MaxInt64}, api.OK},
	} {
		d, l := on(t, 100, api.Msg{Kind: 77})
		before := d.Size()
		s, e := New(l, x.node, x.first)
		if e != x.want || (s == nil) != (e != api.OK) || d.Size() != before {
			t.Errorf("New of %d, %v: %v, %v", x.node, x.first, s, e)
		}
		if e != api.OK {
			continue
		}
		table, version := s.Table()
		if table != x.first || version != 0 || len(s.Rows()) != 0 || len(s.Pending()) != 0 || s.Watermark() != 0 || !slices.Equal(served(s), x.first.Slots(x.node)) {
			t.Errorf("New of %d, %v: %s", x.node, x.first, all(s))
		}
		s.Replay()
		if again, version := s.Table(); again != table || version != 0 || d.Size() != before {
			t.Error("Replay of nothing")
		}
	}
	if KTable != 8 || KFence != 9 || KInstall != 10 {
		t.Errorf("Kinds %d, %d, %d", KTable, KFence, KInstall)
	}
}

// P17.2
func TestServes(t *testing.T) {
	_, s := of(t, owned(0, 3, 15))
	for _, slot := range []int{-1, 16, -16, 17, math.MinInt, math.MaxInt, 3, 15} {
		if s.Serves(slot) {
			t.Errorf("slot %d is served", slot)
		}
	}
	if got := served(s); !slices.Equal(got, []int{0, 1, 2, 4, 5, 6, 7, 8, 9, 10, 11, 12, 13, 14}) {
		t.Errorf("served: %v", got)
	}
	for slot, want := range map[int]api.Errno{0: api.OK, 14: api.OK, 3: api.ErrState} {
		if _, e := s.Fence(slot, 1); e != want || s.Serves(slot) {
			t.Errorf("Fence(%d, 1): %v, served %v", slot, e, s.Serves(slot))
		}
	}
	if got := served(s); !slices.Equal(got, []int{1, 2, 4, 5, 6, 7, 8, 9, 10, 11, 12, 13}) {
		t.Errorf("served: %v", got)
	}
}

// P17.3 to P17.6: the chapter's example.
func TestExample(t *testing.T) {
	d, s := of(t, owned(0))
	if rows, e := s.Fence(5, 1); len(rows) != 0 || e != api.OK || s.Serves(5) {
		t.Errorf("Fence: %v, %v", rows, e)
	}
	s, _ = again(d, owned(0))
	if s.Serves(5) {
		t.Error("served behind a crash")
	}
	must(t, s.Install(5, 4, row(5, 0, 2, 0)), s.Learn(4, owned(3)))
	if users, e := s.Fetch(obj(5, 0), "viewer", 2); !s.Serves(5) || !slices.Equal(users, []string{"user:ann"}) || e != api.OK {
		t.Errorf("behind Learn: %v, %v", users, e)
	}
}

// P17.3: which tables are refused or passed over; these change nothing.
func TestLearnNothing(t *testing.T) {
	d, s := of(t, owned(0, 3))
	commit(t, s, 1, tup(5, 0))
	must(t, s.Learn(4, owned(2, 3)), s.Install(6, 6, row(6, 0, 1, 0)))
	if _, e := s.Fence(7, 5); e != api.OK {
		t.Fatal(e)
	}
	before, size := all(s), d.Size()
	for _, x := range []struct {
		version int64
		t       ring.Table
		want    api.Errno
	}{
		{5, ring.Table{Epoch: -1}, api.ErrRange}, {5, ring.Table{Owners: [16]int{15: 8}}, api.ErrRange}, {5, ring.Table{Owners: [16]int{0: -1}}, api.ErrRange}, {4, ring.Table{Epoch: -1}, api.ErrRange}, {0, ring.Table{Owners: [16]int{9: math.MinInt}}, api.ErrRange}, {math.MaxInt64, ring.Table{Epoch: math.MinInt64}, api.ErrRange},
		{4, owned(9), api.OK}, {4, owned(2, 5), api.OK}, {3, owned(3, 5, 6), api.OK}, {0, owned(0), api.OK}, {-1, owned(7), api.OK}, {math.MinInt64, owned(7), api.OK},
	} {
		if e := s.Learn(x.version, x.t); e != x.want || all(s) != before || d.Size() != size {
			t.Errorf("Learn(%d, %v): %v, %s", x.version, x.t, e, all(s))
		}
	}
	must(t, s.Learn(6, owned(3)))
	if s.Serves(7) != true || rowsText(s.Rows()) != rowsText(sorted(row(5, 0, 1, 0), row(6, 0, 1, 0))) {
		t.Errorf("behind the next one: %s", all(s))
	}
}

// sorted: rows in order.
func sorted(rows ...api.Row) []api.Row {
	slices.SortFunc(rows, func(a, b api.Row) int {
		if c := tuple.Compare(a.Tuple, b.Tuple); c != 0 {
			return c
		}
		return int(a.Since - b.Since)
	})
	return rows
}

// P17.3: the record, and what the table is then.
func TestLearnWritten(t *testing.T) {
	for _, x := range []struct {
		version int64
		t       ring.Table
	}{
		{1, owned(1, 4)}, {9, owned(0)}, {math.MaxInt64, owned(math.MaxInt64, 0, 15)}, {2, ring.Table{Owners: [16]int{1, 2, 3, 4, 5, 6, 7, 0, 1}}},
	} {
		d, s := of(t, owned(5))
		must(t, s.Learn(x.version, x.t))
		now, version := s.Table()
		if now != x.t || version != x.version || d.Durable() != d.Size() || !slices.Equal(served(s), x.t.Slots(here)) {
			t.Errorf("Learn(%d, %v): %s", x.version, x.t, all(s))
		}
		told := all(s)
		s, records := again(d, owned(5))
		want := api.Msg{Kind: 8, Id: x.version, Epoch: x.t.Epoch, Nodes: x.t.Owners[:]}
		if len(records) != 1 || fmt.Sprint(records[0]) != fmt.Sprint(want) || all(s) != told {
			t.Errorf("Learn(%d, %v): written %v; %s", x.version, x.t, records, all(s))
		}
	}
}

// P17.3: the rows of slots that others own are gone, and no others.
func TestLearnTakesAway(t *testing.T) {
	d, s := of(t, owned(0))
	var tuples []api.Tuple
	for slot := range api.Slots {
		tuples = append(tuples, tup(slot, 0), tup(slot, 1))
	}
	commit(t, s, 1, tuples...)
	must(t, s.Prepare(api.Msg{Id: 2, Muts: []api.Mutation{{Delete: true, Tuple: tup(4, 0)}, {Delete: true, Tuple: tup(5, 1)}}}), s.Decide(2, true, 2))
	for version, others := range [][]int{{}, {4}, {4, 0, 15}, {9, 15}, {0, 1, 2, 3, 4, 5, 6, 7, 8, 9, 10, 11, 12, 13, 14, 15}} {
		version, before := int64(version+1), s.Rows()
		must(t, s.Learn(version, owned(version, others...)))
		want := slices.DeleteFunc(before, func(r api.Row) bool { return slices.Contains(others, ring.Slot(r.Tuple.Object)) })
		if rowsText(s.Rows()) != rowsText(want) || version == 4 && len(want) == 0 {
			t.Errorf("without %v: %s, want %s", others, rowsText(s.Rows()), rowsText(want))
		}
		told := all(s)
		if s, _ := again(d, owned(0)); all(s) != told {
			t.Errorf("without %v, behind a crash: %s, want %s", others, all(s), told)
		}
	}
	if len(s.Rows()) != 0 {
		t.Errorf("of nothing: %s", rowsText(s.Rows()))
	}
}

// P17.3: what came in for a move is there once a table of that version or above has the node as owner, instead of what was there; with another owner, or a lower version, it isn't.
func TestLearnTakesIn(t *testing.T) {
	old, in := []api.Row{row(5, 0, 1, 0), row(5, 1, 1, 0)}, []api.Row{row(5, 1, 3, 4), row(5, 2, 5, 0)}
	for _, x := range []struct {
		what    string
		first   ring.Table
		version int64
		t       ring.Table
		want    []api.Row
	}{
		{"the move's table", owned(0), 4, owned(4), in}, {"a later one", owned(0), 5, owned(4), in}, {"a much later one", owned(0), math.MaxInt64, owned(4), in}, {"a table ahead", owned(0), 3, owned(3), old}, {"a table far ahead", owned(0), 1, owned(3), old},
		{"another's", owned(0), 4, owned(4, 5), nil}, {"another's, later", owned(0), 7, owned(4, 5), nil}, {"another's, ahead", owned(0), 3, owned(4, 5), nil}, {"another slot is another's", owned(0), 4, owned(4, 6), in},
	} {
		d, s := of(t, x.first)
		commit(t, s, 1, old[0].Tuple, old[1].Tuple)
		must(t, s.Install(5, 4, in...))
		if rowsText(s.Rows()) != rowsText(sorted(old...)) {
			t.Errorf("%s: behind Install %s", x.what, rowsText(s.Rows()))
		}
		must(t, s.Learn(x.version, x.t))
		if rowsText(s.Rows()) != rowsText(sorted(x.want...)) {
			t.Errorf("%s: %s, want %s", x.what, rowsText(s.Rows()), rowsText(x.want))
		}
		// What came in for a later move waits; what came in for one that is past is forgotten.
		want := s.Rows()
		if x.version < 4 {
			want = in
		} else if x.t.Owner(obj(5, 0)) == there {
			want = nil
		}
		told := all(s)
		s, _ = again(d, x.first)
		if all(s) != told {
			t.Errorf("%s, behind a crash: %s, want %s", x.what, all(s), told)
		}
		if x.version < math.MaxInt64 {
			must(t, s.Learn(x.version+1, owned(9)), s.Learn(x.version+2, owned(9)))
			if x.version == 1 {
				must(t, s.Learn(4, owned(9)))
			}
			if rowsText(s.Rows()) != rowsText(sorted(want...)) {
				t.Errorf("%s, later: %s, want %s", x.what, rowsText(s.Rows()), rowsText(want))
			}
		}
	}
}

// P17.3 and P17.6: rows for several slots and moves.
func TestSeveralSlots(t *testing.T) {
	d, s := of(t, owned(0, 1, 2, 3))
	commit(t, s, 1, tup(0, 0), tup(7, 0))
	must(t, s.Install(1, 1, row(1, 0, 1, 0)), s.Install(2, 2, row(2, 1, 1, 0), row(2, 0, 1, 2), row(2, 0, 3, 0)), s.Install(3, 3), s.Install(7, 3))
	for _, x := range []struct {
		version int64
		t       ring.Table
		served  []int
		want    []api.Row
	}{
		{2, owned(2, 0), []int{1, 2, 3, 4, 5, 6, 7, 8, 9, 10, 11, 12, 13, 14, 15}, []api.Row{row(1, 0, 1, 0), row(2, 0, 1, 2), row(2, 0, 3, 0), row(2, 1, 1, 0), row(7, 0, 1, 0)}},
		{3, owned(3, 1), []int{0, 2, 3, 4, 5, 6, 7, 8, 9, 10, 11, 12, 13, 14, 15}, []api.Row{row(2, 0, 1, 2), row(2, 0, 3, 0), row(2, 1, 1, 0)}},
	} {
		must(t, s.Learn(x.version, x.t))
		if !slices.Equal(served(s), x.served) || rowsText(s.Rows()) != rowsText(sorted(x.want...)) {
			t.Errorf("Learn(%d): %s", x.version, all(s))
		}
		told := all(s)
		if s, _ := again(d, owned(0, 1, 2, 3)); all(s) != told {
			t.Errorf("Learn(%d), behind a crash: %s, want %s", x.version, all(s), told)
		}
	}
}

// P17.3: a slot that is fenced for a move is served again with a table of that version or above, if it is the node's.
func TestLearnEndsFences(t *testing.T) {
	for _, x := range []struct {
		version int64
		t       ring.Table
		want    bool
	}{
		{3, owned(1), true}, {4, owned(1), true}, {math.MaxInt64, owned(1), true}, {3, owned(1, 5), false}, {4, owned(1, 5), false}, {2, owned(1), false}, {1, owned(1), false},
	} {
		d, s := of(t, owned(0))
		must(t, s.Learn(2, owned(1)))
		commit(t, s, 1, tup(5, 0))
		if _, e := s.Fence(5, 3); e != api.OK {
			t.Fatal(e)
		}
		must(t, s.Learn(x.version, x.t))
		if s.Serves(5) != x.want || (len(s.Rows()) > 0) != (x.want || x.version < 3) {
			t.Errorf("Learn(%d): served %v, rows %s", x.version, s.Serves(5), rowsText(s.Rows()))
		}
		told := all(s)
		if s, _ := again(d, owned(0)); all(s) != told {
			t.Errorf("Learn(%d), behind a crash: %s, want %s", x.version, all(s), told)
		}
	}
}

// P17.4: which error, and which of several; none of them is for what is promised or decided.
func TestPrepare(t *testing.T) {
	wrong := api.Tuple{Object: obj(5, 0), Relation: "viewer", User: "user"}
	alien := api.Tuple{Object: obj(3, 0), Relation: "#", User: ""}
	at := func(epoch int64, m api.Msg) api.Msg {
		m.Epoch = epoch
		return m
	}
	// Slot 3 is another's, slot 4 is fenced; 1 is committed, 2 isn't, 6 is promised, and 7 without anything.
	start := func() (*disk.Disk, *Shard) {
		d, s := of(t, owned(7))
		commit(t, s, 1, tup(5, 1), tup(3, 1), tup(4, 1))
		must(t, s.Prepare(at(7, put(2, tup(5, 0)))), s.Decide(2, false, 0), s.Prepare(at(7, put(6, tup(5, 2), tup(4, 2)))), s.Prepare(at(7, put(7))), s.Learn(1, owned(8, 3)))
		if _, e := s.Fence(4, 2); e != api.ErrBusy {
			t.Fatal(e)
		}
		return d, s
	}
	for _, x := range []struct {
		what string
		m    api.Msg
		want api.Errno
	}{
		{"a new one", at(8, put(9, tup(5, 0))), api.OK}, {"of several slots", at(8, put(9, tup(5, 0), tup(6, 0), tup(15, 0))), api.OK}, {"a condition", at(8, absent(9, tup(0, 0))), api.OK}, {"of nothing", at(8, put(9)), api.OK},
		{"an elder epoch", at(7, put(9, tup(5, 0))), api.ErrEpoch}, {"a later epoch", at(9, put(9, tup(5, 0))), api.ErrEpoch}, {"no epoch", at(0, put(9)), api.ErrEpoch}, {"the version isn't it", at(1, put(9)), api.ErrEpoch}, {"an epoch below 0", at(-8, put(9)), api.ErrEpoch},
		{"another's slot", at(8, put(9, tup(3, 0))), api.ErrFenced}, {"a fenced slot", at(8, put(9, tup(4, 0))), api.ErrFenced}, {"the last one's", at(8, put(9, tup(5, 0), tup(6, 0), tup(4, 0))), api.ErrFenced}, {"a condition's", at(8, absent(9, tup(5, 0), tup(3, 0))), api.ErrFenced}, {"a mutation ahead of it", at(8, api.Msg{Id: 9, Muts: put(0, tup(5, 0)).Muts, Pre: absent(0, tup(4, 0)).Pre}), api.ErrFenced},
		// The order of the errors.
		{"both", at(7, put(9, tup(3, 0))), api.ErrEpoch}, {"Id 0, by another epoch", at(7, put(0)), api.ErrEpoch}, {"Id 0, of another's slot", at(8, put(0, tup(3, 0))), api.ErrFenced}, {"Id 0", at(8, put(0, tup(5, 0))), api.ErrRange}, {"Id -1", at(8, put(-1)), api.ErrRange},
		{"a wrong tuple, by another epoch", at(7, put(9, wrong)), api.ErrEpoch}, {"a wrong tuple of another's slot", at(8, put(9, alien)), api.ErrFenced}, {"a wrong tuple, and another's slot", at(8, put(9, wrong, tup(3, 0))), api.ErrFenced}, {"a wrong tuple", at(8, put(9, wrong)), api.ErrForm},
		{"locked, in a fenced slot", at(8, put(9, tup(4, 2))), api.ErrFenced}, {"locked", at(8, put(9, tup(5, 2))), api.ErrLocked}, {"a condition that doesn't hold", at(8, absent(9, tup(5, 1))), api.ErrCondition}, {"such a one in a fenced slot", at(8, absent(9, tup(4, 1))), api.ErrFenced}, {"twice", at(8, put(9, tup(5, 0), tup(5, 0))), api.ErrTwice},
		// What is promised or decided.
		{"committed", at(8, put(1)), api.OK}, {"committed, by another epoch", at(0, put(1, tup(5, 1))), api.OK}, {"committed, of another's slot", at(8, put(1, tup(3, 1), alien)), api.OK}, {"aborted, by another epoch", at(7, put(2, tup(5, 0))), api.ErrState}, {"aborted, of a fenced slot", at(8, put(2, tup(4, 0))), api.ErrState},
		{"promised, by another epoch", at(7, put(6, tup(5, 2), tup(4, 2))), api.OK}, {"promised, of a fenced slot", at(8, put(6, tup(4, 2))), api.OK}, {"promised, of another's slot", at(99, put(6, tup(3, 0))), api.OK}, {"promised without anything", at(7, put(7)), api.OK}, {"promised without anything, of another's slot", at(8, absent(7, tup(3, 0))), api.OK},
	} {
		d, s := start()
		before, size := all(s), d.Size()
		if e := s.Prepare(x.m); e != x.want {
			t.Errorf("%s: %v, want %v", x.what, e, x.want)
		}
		fresh := x.want == api.OK && x.m.Id == 9
		if fresh != (all(s) != before) || fresh != (d.Size() > size) {
			t.Errorf("%s: then %d bytes more, %s", x.what, d.Size()-size, all(s))
		}
		told := all(s)
		if s, _ := again(d, owned(7)); all(s) != told {
			t.Errorf("%s, behind a crash: %s, want %s", x.what, all(s), told)
		}
	}
}

// P17.4: Fetch of what isn't served, and else as the store has it.
func TestFetch(t *testing.T) {
	_, s := of(t, owned(0, 3))
	commit(t, s, 2, tup(5, 0), api.Tuple{Object: obj(5, 0), Relation: "viewer", User: "group:a#member"}, api.Tuple{Object: obj(5, 0), Relation: "owner", User: "user:bob"}, tup(4, 0))
	if _, e := s.Fence(4, 1); e != api.OK {
		t.Fatal(e)
	}
	for _, x := range []struct {
		object, relation string
		rev              int64
		users            string
		want             api.Errno
	}{
		{obj(5, 0), "viewer", 2, "group:a#member user:ann", api.OK}, {obj(5, 0), "viewer", 1, "", api.OK}, {obj(5, 0), "owner", math.MaxInt64, "user:bob", api.OK}, {obj(5, 0), "none", 2, "", api.OK}, {obj(5, 1), "viewer", 2, "", api.OK}, {obj(5, 0), "viewer", -1, "", api.ErrRange},
		{obj(4, 0), "viewer", 2, "", api.ErrFenced}, {obj(3, 0), "viewer", 2, "", api.ErrFenced}, {obj(4, 0), "viewer", -1, "", api.ErrFenced}, {obj(3, 0), "\xff", math.MinInt64, "", api.ErrFenced},
	} {
		users, e := s.Fetch(x.object, x.relation, x.rev)
		if strings.Join(users, " ") != x.users || e != x.want {
			t.Errorf("Fetch(%q, %q, %d): %v, %v", x.object, x.relation, x.rev, users, e)
		}
	}
	must(t, s.Collect(2))
	if _, e := s.Fetch(obj(5, 0), "viewer", 1); e != api.ErrCollected {
		t.Errorf("Fetch of what is collected: %v", e)
	}
	if _, e := s.Fetch(obj(4, 0), "viewer", 1); e != api.ErrFenced {
		t.Errorf("Fetch of what is collected, and fenced: %v", e)
	}
}

// P17.4: what is no object's text falls into a slot, too.
func TestFetchOfAnyText(t *testing.T) {
	for _, object := range []string{"", ":", "\xff\x00", "doc:a#b", strings.Repeat("x", 200)} {
		want := api.OK
		first := owned(0)
		for range 2 {
			_, s := of(t, first)
			if users, e := s.Fetch(object, "", 0); len(users) != 0 || e != want {
				t.Errorf("Fetch(%q): %v, %v, want %v", object, users, e, want)
			}
			first, want = owned(0, ring.Slot(object)), api.ErrFenced
		}
	}
}
