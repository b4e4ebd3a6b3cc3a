package move

import (
	"fmt"
	"math"
	"math/rand"
	"reflect"
	"slices"
	"testing"

	"porter/api"
	"porter/disk"
	"porter/log"
	"porter/ring"
)

// on: a disk with room for so many bytes, and a log with these records on it.
func on(t *testing.T, size int, records ...api.Msg) (*disk.Disk, *log.Log) {
	t.Helper()
	d, e := disk.New(size)
	if e != api.OK {
		t.Fatalf("disk.New(%d): %v", size, e)
	}
	l, _ := log.Open(d)
	for _, r := range records {
		if e := l.Write(r); e != api.OK {
			t.Fatalf("Write: %v", e)
		}
	}
	return d, l
}

// of: the controller of some records, which are on a disk with much room.
func of(t *testing.T, first ring.Table, records ...api.Msg) (*disk.Disk, *Mover) {
	t.Helper()
	d, l := on(t, api.MaxDisk, records...)
	m, e := Open(l, first, records...)
	if e != api.OK {
		t.Fatalf("Open: %v", e)
	}
	return d, m
}

// again: the controller on a disk behind a crash that keeps nothing, and the records that were there.
func again(t *testing.T, d *disk.Disk, first ring.Table) (*Mover, []api.Msg) {
	t.Helper()
	d.Crash(0)
	l, records := log.Open(d)
	m, e := Open(l, first, records...)
	if e != api.OK {
		t.Fatalf("Open: %v", e)
	}
	return m, records
}

// started, cut and undone: records of a controller.
func started(id int64, slot, from, to int) api.Msg {
	return api.Msg{Kind: 11, Id: id, Slot: slot, From: from, To: to}
}

func cut(id int64) api.Msg { return api.Msg{Kind: 12, Id: id} }

func undone(id int64) api.Msg { return api.Msg{Kind: 13, Id: id} }

// table: one of an epoch, in which node 0 owns all slots but those that are told, each with its owner behind it.
func table(epoch int64, owners ...int) ring.Table {
	t := ring.Table{Epoch: epoch}
	for i := 0; i < len(owners); i += 2 {
		t.Owners[owners[i]] = owners[i+1]
	}
	return t
}

// rows: so many rows.
func rows(n int) []api.Row {
	var list []api.Row
	for i := range n {
		list = append(list, api.Row{Tuple: api.Tuple{Object: fmt.Sprintf("doc:%d", i), Relation: "viewer", User: "user:ann"}, Since: int64(i + 1)})
	}
	return list
}

// tells: all that a controller tells.
func tells(m *Mover) string {
	t, version := m.Table()
	move, stage := m.Moving()
	return fmt.Sprintf("%v of %d, %v at %d", t, version, move, stage)
}

// told: what a controller is to tell.
func told(t ring.Table, version int64, move api.Msg, stage int) string {
	return fmt.Sprintf("%v of %d, %v at %d", t, version, move, stage)
}

// P18.1: which first tables, and what records tell.
func TestOpen(t *testing.T) {
	other := func(kind int) api.Msg {
		return api.Msg{Kind: kind, Id: 1, Slot: 3, From: 0, To: 1, Rows: rows(2), Nodes: []int{1}}
	}
	for _, x := range []struct {
		what    string
		first   ring.Table
		records []api.Msg
		want    string
	}{
		{"nothing", table(0), nil, told(table(0), 0, api.Msg{}, 0)},
		{"a first table", table(7, 2, 5), nil, told(table(7, 2, 5), 0, api.Msg{}, 0)},
		{"a move", table(0), []api.Msg{started(1, 3, 0, 1), cut(1)}, told(table(1, 3, 1), 1, api.Msg{}, 0)},
		{"one that is undone", table(0), []api.Msg{started(1, 3, 0, 1), undone(1)}, told(table(0), 1, api.Msg{}, 0)},
		{"some moves", table(7, 2, 5), []api.Msg{started(1, 3, 0, 1), cut(1), started(2, 3, 1, 4), undone(2), started(3, 2, 5, 0), cut(3), started(4, 3, 1, 0), cut(4)}, told(table(10), 4, api.Msg{}, 0)},
		{"undone at last", table(0), []api.Msg{started(1, 15, 0, 7), cut(1), started(2, 3, 0, 1), undone(2)}, told(table(1, 15, 7), 2, api.Msg{}, 0)},
		{"the greatest epoch", table(api.MaxRev - 1), []api.Msg{started(1, 0, 0, 1), cut(1)}, told(table(api.MaxRev, 0, 1), 1, api.Msg{}, 0)},
		{"other Kinds", table(0), []api.Msg{other(0), other(10), other(14), started(1, 3, 0, 1), other(8), other(268), cut(1), other(-12), other(1)}, told(table(1, 3, 1), 1, api.Msg{}, 0)},
	} {
		d, l := on(t, api.MaxDisk, x.records...)
		size := d.Size()
		m, e := Open(l, x.first, x.records...)
		if e != api.OK || tells(m) != x.want || d.Size() != size {
			t.Errorf("%s: %v, %s, want %s", x.what, e, tells(m), x.want)
		}
		if m.Undo() != api.ErrMissing || m.Fenced(1) != api.ErrState || m.Installed(1) != api.ErrState || m.Fenced(0) != api.ErrState || m.Installed(0) != api.ErrState {
			t.Errorf("%s: a move is under way", x.what)
		}
	}
	for _, first := range []ring.Table{table(-1), table(math.MinInt64), table(0, 0, -1), table(0, 15, 8), table(0, 7, math.MaxInt)} {
		d, l := on(t, 100)
		if m, e := Open(l, first, started(1, 3, 0, 1)); m != nil || e != api.ErrRange || d.Size() != 0 {
			t.Errorf("%v: %v, %v", first, m, e)
		}
	}
	if KMove != 11 || KCut != 12 || KUndo != 13 || Idle != 0 || Fencing != 1 || Installing != 2 {
		t.Error("the numbers of Kinds or stages")
	}
}

// P18.1: what is under way is undone, durably, or there is no controller.
func TestOpenUndoes(t *testing.T) {
	for _, x := range []struct {
		records []api.Msg
		want    string
	}{
		{[]api.Msg{started(1, 3, 0, 1)}, told(table(0, 2, 5), 1, api.Msg{}, 0)},
		{[]api.Msg{started(1, 3, 0, 1), cut(1), started(2, 3, 1, 2)}, told(table(1, 2, 5, 3, 1), 2, api.Msg{}, 0)},
		{[]api.Msg{started(1, 3, 0, 1), undone(1), started(2, 3, 0, 2)}, told(table(0, 2, 5), 2, api.Msg{}, 0)},
	} {
		d, m := of(t, table(0, 2, 5), x.records...)
		if tells(m) != x.want || d.Durable() != d.Size() {
			t.Errorf("%v: %s, want %s", x.records, tells(m), x.want)
		}
		size := d.Size()
		m, records := again(t, d, table(0, 2, 5))
		last := x.records[len(x.records)-1]
		if tells(m) != x.want || d.Size() != size || len(records) != len(x.records)+1 || !reflect.DeepEqual(records[len(x.records)], undone(last.Id)) {
			t.Errorf("%v: written %v, %s, want %s", x.records, records, tells(m), x.want)
		}
		if id, e := m.Start(9, 3); id != last.Id+1 || e != api.OK {
			t.Errorf("%v: Start: %d, %v", x.records, id, e)
		}
		// Without room.
		probe, _ := on(t, api.MaxDisk, x.records...)
		full := probe.Size()
		for spare := range size - full {
			d, l := on(t, full+spare, x.records...)
			if m, e := Open(l, table(0, 2, 5), x.records...); m != nil || e != api.ErrFull || d.Size() != full {
				t.Errorf("%v, %d bytes left: %v, %v", x.records, spare, m, e)
			}
		}
		_, l := on(t, size, x.records...)
		if m, e := Open(l, table(0, 2, 5), x.records...); e != api.OK || tells(m) != x.want {
			t.Errorf("%v, just enough: %v", x.records, e)
		}
	}
}

// P18.2 to P18.4: the chapter's examples.
func TestExample(t *testing.T) {
	d, m := of(t, table(0))
	id, e := m.Start(3, 1)
	if id != 1 || e != api.OK || m.Fenced(1) != api.OK || m.Installed(1) != api.OK || tells(m) != told(table(1, 3, 1), 1, api.Msg{}, 0) {
		t.Errorf("the first move: %d, %v, %s", id, e, tells(m))
	}
	if id, e := m.Start(4, 1); id != 2 || e != api.OK {
		t.Errorf("the second move: %d, %v", id, e)
	}
	if m, _ := again(t, d, table(0)); tells(m) != told(table(1, 3, 1), 2, api.Msg{}, 0) {
		t.Errorf("behind a crash: %s", tells(m))
	}
}

// P18.2: which error, and which of several; what is written and told.
func TestStart(t *testing.T) {
	first := table(5, 2, 5)
	for _, x := range []struct {
		slot, to int
		want     api.Errno
	}{
		{3, 1, api.OK}, {0, 7, api.OK}, {15, 1, api.OK}, {2, 0, api.OK}, {2, 7, api.OK}, {2, 5, api.ErrTwice}, {3, 0, api.ErrTwice},
		{-1, 1, api.ErrRange}, {16, 1, api.ErrRange}, {3, -1, api.ErrRange}, {3, 8, api.ErrRange}, {math.MinInt, math.MaxInt, api.ErrRange}, {math.MaxInt, 0, api.ErrRange},
	} {
		for _, version := range []int64{0, 2} {
			d, m := of(t, first, []api.Msg{started(1, 3, 0, 1), undone(1), started(2, 3, 0, 1), undone(2)}[:2*version]...)
			size := d.Size()
			id, e := m.Start(x.slot, x.to)
			if e != x.want || (e == api.OK) != (id == version+1) || e != api.OK && (id != 0 || d.Size() != size || tells(m) != told(first, version, api.Msg{}, 0)) {
				t.Errorf("Start(%d, %d): %d, %v; %s", x.slot, x.to, id, e, tells(m))
			}
			if e != api.OK {
				continue
			}
			record := started(version+1, x.slot, first.Owners[x.slot], x.to)
			if tells(m) != told(first, version, record, Fencing) || d.Durable() != d.Size() {
				t.Errorf("Start(%d, %d): %s", x.slot, x.to, tells(m))
			}
			now := tells(m)
			size = d.Size()
			for _, y := range [][2]int{{x.slot, x.to}, {9, 3}, {-1, -1}, {x.slot, first.Owners[x.slot]}} {
				if id, e := m.Start(y[0], y[1]); id != 0 || e != api.ErrBusy || tells(m) != now || d.Size() != size {
					t.Errorf("a second Start(%d, %d): %d, %v", y[0], y[1], id, e)
				}
			}
			must(t, m.Fenced(id, rows(2)...))
			if id, e := m.Start(9, 3); id != 0 || e != api.ErrBusy {
				t.Errorf("a second Start, later: %d, %v", id, e)
			}
			if _, records := log.Open(d); !reflect.DeepEqual(records[2*version], record) {
				t.Errorf("Start(%d, %d): written %v", x.slot, x.to, records)
			}
		}
	}
}

// P18.2: a table of the greatest epoch has no next one.
func TestStartBehindAll(t *testing.T) {
	for epoch, want := range map[int64]api.Errno{api.MaxRev - 1: api.OK, api.MaxRev: api.ErrRange, math.MaxInt64: api.ErrRange} {
		d, m := of(t, table(epoch))
		id, e := m.Start(3, 1)
		if e != want || (id == 1) != (e == api.OK) || (d.Size() > 0) != (e == api.OK) {
			t.Errorf("epoch %d: %d, %v", epoch, id, e)
		}
	}
}

// must: this is done without an error.
func must(t *testing.T, list ...api.Errno) {
	t.Helper()
	for i, e := range list {
		if e != api.OK {
			t.Fatalf("the call %d of %d: %v", i+1, len(list), e)
		}
	}
}

// P18.2 to P18.4: what each call does at each stage, for each number.
func TestStages(t *testing.T) {
	first := table(4, 2, 5)
	in := rows(3)
	move := started(2, 2, 5, 1)
	held := move
	held.Rows = in
	next, _ := first.Move(2, 1)
	at := []string{told(first, 1, api.Msg{}, Idle), told(first, 1, move, Fencing), told(first, 1, held, Installing)}
	done, undo := told(next, 2, api.Msg{}, Idle), told(first, 2, api.Msg{}, Idle)
	for stage := range 3 {
		for _, x := range []struct {
			what    string
			call    func(m *Mover) api.Errno
			want    [3]api.Errno
			then    [3]string
			written api.Msg
		}{
			{"Fenced", func(m *Mover) api.Errno { return m.Fenced(2, in...) }, [3]api.Errno{api.ErrState, api.OK, api.ErrState}, [3]string{at[0], at[2], at[2]}, api.Msg{}},
			{"Fenced, elder", func(m *Mover) api.Errno { return m.Fenced(1, rows(1)...) }, [3]api.Errno{api.ErrState, api.ErrState, api.ErrState}, [3]string{at[0], at[1], at[2]}, api.Msg{}},
			{"Fenced, later", func(m *Mover) api.Errno { return m.Fenced(3) }, [3]api.Errno{api.ErrState, api.ErrState, api.ErrState}, [3]string{at[0], at[1], at[2]}, api.Msg{}},
			{"Fenced, 0", func(m *Mover) api.Errno { return m.Fenced(0) }, [3]api.Errno{api.ErrState, api.ErrState, api.ErrState}, [3]string{at[0], at[1], at[2]}, api.Msg{}},
			{"Installed", func(m *Mover) api.Errno { return m.Installed(2) }, [3]api.Errno{api.ErrState, api.ErrState, api.OK}, [3]string{at[0], at[1], done}, cut(2)},
			{"Installed, elder", func(m *Mover) api.Errno { return m.Installed(1) }, [3]api.Errno{api.ErrState, api.ErrState, api.ErrState}, [3]string{at[0], at[1], at[2]}, api.Msg{}},
			{"Installed, later", func(m *Mover) api.Errno { return m.Installed(math.MaxInt64) }, [3]api.Errno{api.ErrState, api.ErrState, api.ErrState}, [3]string{at[0], at[1], at[2]}, api.Msg{}},
			{"Installed, 0", func(m *Mover) api.Errno { return m.Installed(0) }, [3]api.Errno{api.ErrState, api.ErrState, api.ErrState}, [3]string{at[0], at[1], at[2]}, api.Msg{}},
			{"Undo", func(m *Mover) api.Errno { return m.Undo() }, [3]api.Errno{api.ErrMissing, api.OK, api.OK}, [3]string{at[0], undo, undo}, undone(2)},
		} {
			d, m := of(t, first, started(1, 7, 0, 3), undone(1))
			if stage >= Fencing {
				_, e := m.Start(2, 1)
				must(t, e)
			}
			if stage == Installing {
				must(t, m.Fenced(2, in...))
			}
			if tells(m) != at[stage] {
				t.Fatalf("stage %d: %s, want %s", stage, tells(m), at[stage])
			}
			before := d.Size()
			if e := x.call(m); e != x.want[stage] || tells(m) != x.then[stage] {
				t.Errorf("%s at %d: %v, %s, want %v, %s", x.what, stage, e, tells(m), x.want[stage], x.then[stage])
			}
			writes := x.want[stage] == api.OK && x.written.Kind != 0
			if writes != (d.Size() > before) || d.Durable() != d.Size() {
				t.Errorf("%s at %d: %d bytes more", x.what, stage, d.Size()-before)
			}
			if _, records := log.Open(d.Fork()); writes && !reflect.DeepEqual(records[len(records)-1], x.written) {
				t.Errorf("%s at %d: written %v", x.what, stage, records)
			}
			// Behind a crash a move that has ended has ended so; one that hasn't is undone.
			want := undo
			if x.then[stage] == at[0] || x.then[stage] == done {
				want = x.then[stage]
			}
			if m, _ := again(t, d, first); tells(m) != want {
				t.Errorf("%s at %d, behind a crash: %s, want %s", x.what, stage, tells(m), want)
			}
		}
	}
}

// P18.3: whatever rows are told, those count that were told first.
func TestRows(t *testing.T) {
	_, m := of(t, table(0))
	m.Start(3, 1)
	wrong := []api.Row{{}, {Since: -4, Until: math.MinInt64}, {Tuple: api.Tuple{Object: "\xff"}}}
	must(t, m.Fenced(1, wrong...))
	if e := m.Fenced(1, rows(2)...); e != api.ErrState {
		t.Errorf("a second Fenced: %v", e)
	}
	if move, stage := m.Moving(); !slices.Equal(move.Rows, wrong) || stage != Installing {
		t.Errorf("told: %v at %d", move, stage)
	}
	must(t, m.Undo())
	m.Start(3, 1)
	if move, stage := m.Moving(); len(move.Rows) != 0 || stage != Fencing || move.Id != 2 {
		t.Errorf("the next move: %v at %d", move, stage)
	}
	must(t, m.Fenced(2), m.Installed(2))
	if now, version := m.Table(); now != table(1, 3, 1) || version != 2 {
		t.Errorf("without rows: %v of %d", now, version)
	}
	// More than a record can hold: they aren't written.
	_, l := on(t, 200)
	m, _ = Open(l, table(0))
	m.Start(3, 1)
	must(t, m.Fenced(1, rows(5000)...), m.Installed(1))
}

// P18.2 to P18.4, and P2: without room nothing begins and nothing ends; Fenced needs none.
func TestNoRoom(t *testing.T) {
	probe, m := of(t, table(0))
	m.Start(3, 1)
	begun := probe.Size()
	m.Undo()
	ended := probe.Size() - begun
	for room := range begun + ended + 1 {
		for _, undo := range []bool{true, false} {
			d, l := on(t, room)
			m, _ := Open(l, table(0))
			id, e := m.Start(3, 1)
			if room < begun {
				for range 2 {
					if id != 0 || e != api.ErrFull || tells(m) != told(table(0), 0, api.Msg{}, Idle) || d.Size() != 0 {
						t.Errorf("Start, %d bytes: %d, %v, %s", room, id, e, tells(m))
					}
					id, e = m.Start(4, 2)
				}
				if id, e := m.Start(3, 0); id != 0 || e != api.ErrTwice {
					t.Errorf("Start of nothing: %d, %v", id, e)
				}
				continue
			}
			must(t, e, m.Fenced(1, rows(2)...))
			end, want := func() api.Errno { return m.Installed(1) }, api.OK
			if undo {
				end = m.Undo
			}
			if room < begun+ended {
				want = api.ErrFull
			}
			before := tells(m)
			if e := end(); e != want || (want == api.OK) != (tells(m) != before) {
				t.Errorf("undo %v, %d bytes: %v, %s", undo, room, e, tells(m))
			}
			if e := end(); want != api.OK && (e != want || tells(m) != before || d.Size() != begun) {
				t.Errorf("undo %v, %d bytes, again: %v, %s", undo, room, e, tells(m))
			}
		}
	}
}

// P2: what is handed in is neither changed nor kept, and what is answered is new memory.
func TestMemory(t *testing.T) {
	_, m := of(t, table(0))
	m.Start(3, 1)
	in := append(make([]api.Row, 0, 9), rows(3)...)
	must(t, m.Fenced(1, in...))
	if !reflect.DeepEqual(in[:9], append(rows(3), make([]api.Row, 6)...)) {
		t.Errorf("changed: %v", in[:9])
	}
	clear(in[:9])
	first, _ := m.Moving()
	second, _ := m.Moving()
	clear(first.Rows[:cap(first.Rows)])
	third, _ := m.Moving()
	if !reflect.DeepEqual(second.Rows, rows(3)) || !reflect.DeepEqual(third.Rows, rows(3)) {
		t.Errorf("shared memory: %v, %v", second, third)
	}
	holds, _ := m.Table()
	holds.Owners[3] = 7
	if again, _ := m.Table(); again != table(0) {
		t.Errorf("shared memory: %v", again)
	}
	must(t, m.Installed(1))
	if holds.Owners[3] != 7 || !reflect.DeepEqual(second.Rows, rows(3)) {
		t.Error("an answer has changed")
	}
}

// P18.1: what others have in the same log is passed over, and stays; two controllers go on by themselves.
func TestOneLogOfSeveral(t *testing.T) {
	other := api.Msg{Kind: 9, Id: 1, Slot: 3}
	d, l := on(t, 2000, other)
	m, _ := Open(l, table(0), other)
	_, free := of(t, table(0))
	m.Start(3, 1)
	l.Add(other)
	must(t, m.Fenced(1), m.Installed(1))
	l.Add(other)
	m.Start(4, 1)
	m, records := again(t, d, table(0))
	if tells(m) != told(table(1, 3, 1), 2, api.Msg{}, 0) || len(records) != 6 || !reflect.DeepEqual(records[4], other) {
		t.Errorf("behind a crash: %s of %v", tells(m), records)
	}
	if tells(free) != told(table(0), 0, api.Msg{}, 0) {
		t.Errorf("another one: %s", tells(free))
	}
}

// P18.1: many moves, whatever became of them.
func TestManyMoves(t *testing.T) {
	const many = 5000
	d, m := of(t, table(0))
	want := table(0)
	for i := range int64(many) {
		slot := int(i*7) % 16
		to := (want.Owners[slot] + 1 + int(i)%7) % 8
		id, e := m.Start(slot, to)
		must(t, e, m.Fenced(id, rows(int(i%3))...))
		if i%3 == 0 {
			must(t, m.Undo())
			continue
		}
		must(t, m.Installed(id))
		want, _ = want.Move(slot, to)
	}
	for range 2 {
		if tells(m) != told(want, many, api.Msg{}, 0) {
			t.Errorf("%s, want %s", tells(m), told(want, many, api.Msg{}, 0))
		}
		m, _ = again(t, d, table(0))
	}
}

// model is a controller as P18.1 to P18.4 tell it, told once more in a plainer way: the moves that were begun, with what became of them.
type model struct {
	first ring.Table
	moves []begun
}

type begun struct {
	slot, from, to int
	rows           []api.Row
	stage          int
	ended, done    bool
}

// table: the table that holds, and its version.
func (m *model) table() (ring.Table, int64) {
	t, version := m.first, int64(0)
	for i, x := range m.moves {
		if x.done {
			t.Epoch++
			t.Owners[x.slot] = x.to
		}
		if x.ended {
			version = int64(i + 1)
		}
	}
	return t, version
}

// last: the move under way, or nil.
func (m *model) last() *begun {
	if len(m.moves) == 0 || m.moves[len(m.moves)-1].ended {
		return nil
	}
	return &m.moves[len(m.moves)-1]
}

func (m *model) tells() string {
	t, version := m.table()
	x := m.last()
	if x == nil {
		return told(t, version, api.Msg{}, 0)
	}
	record := started(int64(len(m.moves)), x.slot, x.from, x.to)
	record.Rows = x.rows
	return told(t, version, record, x.stage)
}

// start, fenced, installed and undo: the error ahead of Write's, and what is done if there is none.
func (m *model) start(slot, to int) (api.Errno, func()) {
	t, _ := m.table()
	switch {
	case m.last() != nil:
		return api.ErrBusy, nil
	case slot < 0 || slot > 15 || to < 0 || to > 7 || t.Epoch >= 1<<50:
		return api.ErrRange, nil
	case t.Owners[slot] == to:
		return api.ErrTwice, nil
	}
	return api.OK, func() { m.moves = append(m.moves, begun{slot: slot, from: t.Owners[slot], to: to, stage: 1}) }
}

func (m *model) step(id int64, stage int, do func(x *begun)) (api.Errno, func()) {
	x := m.last()
	if x == nil || int64(len(m.moves)) != id || x.stage != stage {
		return api.ErrState, nil
	}
	return api.OK, func() { do(x) }
}

func (m *model) undo() (api.Errno, func()) {
	x := m.last()
	if x == nil {
		return api.ErrMissing, nil
	}
	return api.OK, func() { x.ended = true }
}

// play: any calls of a controller, as some bytes say, on a disk with so many bytes of room, against its model.
func play(t *testing.T, room int, epoch int64, calls []byte) {
	t.Helper()
	next := func(below int) int {
		if len(calls) == 0 {
			return 0
		}
		x := int(calls[0])
		calls = calls[1:]
		return x % below
	}
	d, l := on(t, room)
	m := &model{first: table(epoch, next(16), next(8))}
	mover, e := Open(l, m.first)
	if e != api.OK {
		t.Fatalf("Open: %v", e)
	}
	for i := 0; len(calls) > 0; i++ {
		size := d.Size()
		var e, want api.Errno
		var done func()
		what, id, writes := "", int64(len(m.moves)), true
		if next(8) == 0 {
			id += int64(next(3)) - 1
		}
		switch next(8) {
		case 0, 1:
			slot, to := next(18)-1, next(10)-1
			want, done = m.start(slot, to)
			what = fmt.Sprintf("Start(%d, %d)", slot, to)
			id, e = mover.Start(slot, to)
			if (e == api.OK) != (id == int64(len(m.moves)+1)) || e != api.OK && id != 0 {
				t.Fatalf("call %d, %s: %d, %v", i, what, id, e)
			}
		case 2, 3:
			list := rows(next(3))
			want, done = m.step(id, 1, func(x *begun) { x.rows, x.stage = list, 2 })
			what, e, writes = fmt.Sprintf("Fenced(%d)", id), mover.Fenced(id, list...), false
		case 4, 5:
			want, done = m.step(id, 2, func(x *begun) { x.ended, x.done = true, true })
			what, e = fmt.Sprintf("Installed(%d)", id), mover.Installed(id)
		case 6:
			want, done = m.undo()
			what, e = "Undo", mover.Undo()
		default:
			want, done = m.undo()
			if want == api.ErrMissing {
				want, done, writes = api.OK, func() {}, false
			}
			d.Crash(0)
			l, records := log.Open(d)
			again, f := Open(l, m.first, records...)
			what, e = "a crash", f
			if e == api.OK {
				mover = again
			} else if again != nil || d.Left() > 100 {
				t.Fatalf("call %d, %s: %v, %v", i, what, again, e)
			} else {
				return
			}
		}
		if e == api.ErrFull && want == api.OK && writes && d.Left() <= 100 {
			want = api.ErrFull
		}
		if e != want || (writes && e == api.OK) != (d.Size() > size) || d.Durable() != d.Size() {
			t.Fatalf("call %d, %s: %v, %d bytes more, want %v", i, what, e, d.Size()-size, want)
		}
		if e == api.OK {
			done()
		}
		if tells(mover) != m.tells() {
			t.Fatalf("call %d, %s: %s, want %s", i, what, tells(mover), m.tells())
		}
	}
}

// P18.1 to P18.4, and P2: any calls, one behind the other.
func TestAnyCalls(t *testing.T) {
	r := rand.New(rand.NewSource(18))
	for range 2000 {
		calls := make([]byte, r.Intn(300))
		r.Read(calls)
		play(t, r.Intn(4000), []int64{0, 5, api.MaxRev - 3}[r.Intn(3)], calls)
	}
}

// P1: any records and any calls.
func FuzzNothingPanics(f *testing.F) {
	f.Add(300, 11, int64(7), int64(3), 5, 1, []byte{0, 1, 5, 2, 1, 0, 11, 2, 1, 13, 4, 16, 5, 0, 19})
	f.Add(0, 12, int64(math.MinInt64), int64(math.MaxInt64), math.MinInt, math.MaxInt, []byte{})
	f.Add(90, 13, int64(math.MaxInt64), int64(0), 16, 8, []byte{19, 19, 19})
	f.Fuzz(func(t *testing.T, room, kind int, id, epoch int64, slot, to int, calls []byte) {
		play(t, room&0xfff, epoch&(1<<51-1), calls)
		_, l := on(t, 100+room&0xff)
		r := api.Msg{Kind: kind, Id: id, Slot: slot, From: to, To: to, Rows: rows(1)}
		records := []api.Msg{r}
		for _, kind := range []int{KUndo, KMove, KMove, KCut, KMove} {
			r.Kind = kind
			records = append(records, r, api.Msg{Kind: kind, Id: ^id, Slot: to, To: slot}, api.Msg{Kind: kind})
		}
		m, e := Open(l, ring.Table{Epoch: epoch}, records...)
		if e != api.OK {
			if m != nil {
				t.Errorf("Open: %v, but a controller", e)
			}
			return
		}
		if _, stage := m.Moving(); stage != Idle {
			t.Errorf("Open: at %d", stage)
		}
		started, e := m.Start(slot, to)
		if _, stage := m.Moving(); (stage == Fencing) != (e == api.OK) {
			t.Errorf("Start: %v, at %d", e, stage)
		}
		m.Fenced(id, r.Rows...)
		m.Installed(id)
		m.Fenced(started)
		m.Installed(started)
		m.Undo()
		if _, e := m.Start(to, slot); e == api.ErrBusy && room&0xff > 100 {
			t.Errorf("Undo hasn't ended it")
		}
	})
}
