package shard

import (
	"fmt"
	"math"
	"slices"
	"testing"

	"porter/api"
	"porter/ring"
)

// P17.5: which error, and which of several; none of them but ErrBusy changes anything.
func TestFence(t *testing.T) {
	// Version 3; slot 3 is another's; in slot 4 something is promised, slot 5 is fenced, for slot 6 rows came in.
	start := func(t *testing.T) *Shard {
		_, s := of(t, owned(0))
		commit(t, s, 1, tup(7, 0), tup(5, 0))
		must(t, s.Prepare(put(6, tup(4, 0))), s.Learn(3, owned(1, 3)), s.Install(6, 4, row(6, 0, 1, 0)))
		if _, e := s.Fence(5, 4); e != api.OK {
			t.Fatal(e)
		}
		return s
	}
	for _, x := range []struct {
		slot int
		id   int64
		want api.Errno
	}{
		{-1, 4, api.ErrRange}, {16, 4, api.ErrRange}, {math.MinInt, 4, api.ErrRange}, {math.MaxInt, 4, api.ErrRange}, {16, 3, api.ErrRange}, {-1, 0, api.ErrRange},
		{7, 3, api.ErrEpoch}, {7, 5, api.ErrEpoch}, {7, 0, api.ErrEpoch}, {7, 1, api.ErrEpoch}, {7, -4, api.ErrEpoch}, {7, math.MinInt64, api.ErrEpoch}, {7, math.MaxInt64, api.ErrEpoch},
		{3, 3, api.ErrEpoch}, {3, 5, api.ErrEpoch}, {3, 4, api.ErrState}, {4, 5, api.ErrEpoch}, {5, 3, api.ErrEpoch}, {5, 5, api.ErrEpoch},
		{7, 4, api.OK}, {6, 4, api.OK}, {0, 4, api.OK}, {15, 4, api.OK}, {5, 4, api.OK}, {4, 4, api.ErrBusy},
	} {
		s := start(t)
		before := all(s)
		rows, e := s.Fence(x.slot, x.id)
		if e != x.want || e != api.OK && len(rows) != 0 {
			t.Errorf("Fence(%d, %d): %v, %v, want %v", x.slot, x.id, rows, e, x.want)
		}
		fenced := e == api.OK || e == api.ErrBusy
		if fenced && s.Serves(x.slot) || (fenced && x.slot != 5) != (all(s) != before) {
			t.Errorf("Fence(%d, %d): %s", x.slot, x.id, all(s))
		}
		if want := map[int][]api.Row{7: {row(7, 0, 1, 0)}, 5: {row(5, 0, 1, 0)}}[x.slot]; e == api.OK && rowsText(rows) != rowsText(want) {
			t.Errorf("Fence(%d, %d): %s", x.slot, x.id, rowsText(rows))
		}
	}
}

// P17.5: above the greatest version there is no move.
func TestFenceBehindAll(t *testing.T) {
	_, s := of(t, owned(0))
	must(t, s.Learn(math.MaxInt64-1, owned(1)))
	if _, e := s.Fence(5, math.MaxInt64); e != api.OK || s.Serves(5) {
		t.Errorf("the last move of all: %v", e)
	}
	must(t, s.Learn(math.MaxInt64, owned(2)))
	for _, id := range []int64{math.MinInt64, math.MaxInt64, 0, -1} {
		for _, slot := range []int{5, 6} {
			if _, e := s.Fence(slot, id); e != api.ErrEpoch || !s.Serves(slot) {
				t.Errorf("Fence(%d, %d): %v", slot, id, e)
			}
			if e := s.Install(slot, id); e != api.ErrEpoch {
				t.Errorf("Install(%d, %d): %v", slot, id, e)
			}
		}
	}
}

// P17.5: a slot that is fenced for a later move isn't fenced for an elder one.
func TestFenceForAnElderMove(t *testing.T) {
	_, s := of(t, owned(0))
	s.Replay(api.Msg{Kind: KFence, Id: 4, Slot: 5})
	for _, version := range []int64{1, 2, 3} {
		if _, e := s.Fence(5, version); e != api.ErrEpoch || s.Serves(5) {
			t.Errorf("Fence for %d: %v", version, e)
		}
		must(t, s.Learn(version, owned(version)))
	}
	if _, e := s.Fence(5, 4); e != api.OK {
		t.Errorf("Fence for 4: %v", e)
	}
}

// P17.5: the record, once for a move; and all rows of the slot, in order.
func TestFenceWritten(t *testing.T) {
	d, s := of(t, owned(0))
	x, y, z := tup(5, 0), tup(5, 1), api.Tuple{Object: obj(5, 0), Relation: "owner", User: "group:g#member"}
	commit(t, s, 1, x, y, tup(6, 0))
	must(t, s.Prepare(api.Msg{Id: 2, Muts: []api.Mutation{{Tuple: z}, {Delete: true, Tuple: x}}}), s.Decide(2, true, 4))
	commit(t, s, 7, x, tup(4, 0))
	size := d.Size()
	want := sorted(api.Row{Tuple: x, Since: 1, Until: 4}, api.Row{Tuple: x, Since: 7}, api.Row{Tuple: y, Since: 1}, api.Row{Tuple: z, Since: 4})
	for i := range 3 {
		rows, e := s.Fence(5, 1)
		if rowsText(rows) != rowsText(want) || e != api.OK || d.Durable() != d.Size() || i == 0 && d.Size() <= size || i > 0 && d.Size() != size {
			t.Errorf("Fence: %s, %v, %d bytes more", rowsText(rows), e, d.Size()-size)
		}
		size = d.Size()
	}
	s, records := again(d, owned(0))
	if last := records[len(records)-1]; fmt.Sprint(last) != fmt.Sprint(api.Msg{Kind: 9, Id: 1, Slot: 5}) || s.Serves(5) {
		t.Errorf("written: %v", last)
	}
	if rows, e := s.Fence(5, 1); rowsText(rows) != rowsText(want) || e != api.OK || d.Size() != size {
		t.Errorf("Fence behind a crash: %s, %v", rowsText(rows), e)
	}
	// Other slots have their own fences.
	if rows, e := s.Fence(6, 1); rowsText(rows) != rowsText([]api.Row{row(6, 0, 1, 0)}) || e != api.OK || d.Size() <= size {
		t.Errorf("Fence of another slot: %s, %v", rowsText(rows), e)
	}
	if rows, e := s.Fence(0, 1); len(rows) != 0 || e != api.OK {
		t.Errorf("Fence of an empty slot: %s, %v", rowsText(rows), e)
	}
}

// P17.5: as long as something is promised in the slot, it is fenced, but its rows aren't told.
func TestFenceWhatIsPromised(t *testing.T) {
	for _, x := range []struct {
		what string
		m    api.Msg
		want api.Errno
	}{
		{"a mutation", put(2, tup(5, 1)), api.ErrBusy}, {"a condition", absent(2, tup(5, 1)), api.ErrBusy}, {"the last of several", put(2, tup(4, 0), tup(6, 0), tup(5, 1)), api.ErrBusy}, {"a condition behind a mutation", api.Msg{Id: 2, Muts: put(0, tup(4, 0)).Muts, Pre: absent(0, tup(6, 0), tup(5, 1)).Pre}, api.ErrBusy},
		{"of other slots", api.Msg{Id: 2, Muts: put(0, tup(4, 0)).Muts, Pre: absent(0, tup(6, 0)).Pre}, api.OK}, {"of nothing", put(2), api.OK},
	} {
		for _, commit := range []bool{true, false} {
			d, s := of(t, owned(0))
			must(t, s.Prepare(put(1, tup(5, 0))), s.Decide(1, true, 1), s.Prepare(put(8, tup(6, 3))), s.Prepare(x.m))
			for range 2 {
				size := d.Size()
				for i := range 2 {
					if rows, e := s.Fence(5, 1); e != x.want || (len(rows) > 0) != (e == api.OK) || s.Serves(5) || i > 0 && d.Size() != size {
						t.Errorf("%s: %v, %v", x.what, rows, e)
					}
					size = d.Size()
				}
				s, _ = again(d, owned(0))
			}
			must(t, s.Decide(2, commit, 9))
			want := 1
			if commit && slices.ContainsFunc(x.m.Muts, func(m api.Mutation) bool { return m.Tuple == tup(5, 1) }) {
				want = 2
			}
			if rows, e := s.Fence(5, 1); e != api.OK || len(rows) != want || s.Serves(5) {
				t.Errorf("%s, decided %v: %v, %v", x.what, commit, rows, e)
			}
		}
	}
}

// P17.6: which error, and which of several; none of them changes anything.
func TestInstall(t *testing.T) {
	wrong, name := row(5, 0, 1, 0), row(5, 0, 1, 0)
	wrong.Tuple.User, name.Tuple.Relation = "user", "Viewer"
	// Version 3; for slot 5 rows came in for the move 6.
	start := func(t *testing.T) *Shard {
		_, s := of(t, owned(0))
		commit(t, s, 1, tup(5, 0), tup(7, 0))
		must(t, s.Learn(3, owned(1, 3)), s.Install(5, 6, row(5, 1, 2, 0)))
		return s
	}
	for _, x := range []struct {
		what string
		slot int
		id   int64
		rows []api.Row
		want api.Errno
	}{
		{"no such slot", -1, 7, nil, api.ErrRange}, {"no such slot", 16, 7, nil, api.ErrRange}, {"no such slot", math.MinInt, 0, nil, api.ErrRange}, {"no such slot", math.MaxInt, 0, []api.Row{wrong}, api.ErrRange},
		{"another slot's", 5, 7, []api.Row{row(5, 0, 1, 0), row(6, 0, 1, 0)}, api.ErrRange}, {"another slot's, for what came in", 5, 6, []api.Row{row(6, 0, 1, 0)}, api.ErrRange}, {"another slot's, for an elder move", 5, 1, []api.Row{row(6, 0, 1, 0)}, api.ErrRange}, {"another slot's, behind a wrong one", 5, 7, []api.Row{wrong, row(4, 0, 1, 0)}, api.ErrRange},
		{"the version's", 7, 3, nil, api.ErrEpoch}, {"an elder one's", 7, 1, nil, api.ErrEpoch}, {"0", 7, 0, nil, api.ErrEpoch}, {"below 0", 7, math.MinInt64, nil, api.ErrEpoch}, {"one ahead of what came in", 5, 5, nil, api.ErrEpoch}, {"one ahead of that", 5, 4, []api.Row{wrong}, api.ErrEpoch}, {"an elder one's, of a wrong row", 5, 3, []api.Row{wrong}, api.ErrEpoch},
		{"what came in", 5, 6, []api.Row{row(5, 1, 2, 0)}, api.OK}, {"others for the same move", 5, 6, []api.Row{row(5, 0, 1, 0)}, api.OK}, {"none for the same move", 5, 6, nil, api.OK}, {"wrong ones for the same move", 5, 6, []api.Row{wrong, row(5, 0, 9, 3)}, api.OK},
		{"a wrong tuple", 5, 7, []api.Row{row(5, 1, 1, 0), wrong}, api.ErrForm}, {"a wrong name", 5, 7, []api.Row{name, wrong}, api.ErrName}, {"since 0", 5, 7, []api.Row{row(5, 0, 0, 0)}, api.ErrRange}, {"above all revisions", 5, 7, []api.Row{row(5, 0, api.MaxRev+1, 0)}, api.ErrRange}, {"until its since", 5, 7, []api.Row{row(5, 0, 4, 4)}, api.ErrRange}, {"two that are there", 5, 7, []api.Row{row(5, 0, 1, 0), row(5, 0, 2, 0)}, api.ErrOrder}, {"out of order", 5, 7, []api.Row{row(5, 0, 3, 4), row(5, 0, 1, 2)}, api.ErrOrder},
	} {
		s := start(t)
		before := all(s)
		if e := s.Install(x.slot, x.id, x.rows...); e != x.want || all(s) != before {
			t.Errorf("%s: Install(%d, %d, %v): %v, want %v; %s", x.what, x.slot, x.id, x.rows, e, x.want, all(s))
		}
		must(t, s.Learn(9, owned(2)))
		if rowsText(s.Rows()) != rowsText(sorted(row(5, 1, 2, 0), row(7, 0, 1, 0))) {
			t.Errorf("%s, learnt: %s", x.what, rowsText(s.Rows()))
		}
	}
}

// P17.6: the record, and that rows for a later move come instead of those for an elder one; those which are there already don't matter.
func TestInstallWritten(t *testing.T) {
	for _, x := range []struct {
		id   int64
		rows []api.Row
	}{
		{2, []api.Row{row(5, 0, 1, 3), row(5, 0, 4, 0)}}, {4, nil}, {5, []api.Row{row(5, 1, 7, 0), row(5, 0, 1, 0)}}, {math.MaxInt64, []api.Row{row(5, 2, api.MaxRev, 0)}}, {math.MaxInt64, nil},
	} {
		d, s := of(t, owned(0))
		commit(t, s, 1, tup(5, 0))
		must(t, s.Install(5, 1, row(5, 3, 1, 0)))
		if x.id > 3 {
			must(t, s.Install(5, 3, row(5, 4, 1, 0)))
		}
		before := all(s)
		must(t, s.Install(5, x.id, x.rows...))
		if all(s) != before || d.Durable() != d.Size() {
			t.Errorf("Install for %d: %s", x.id, all(s))
		}
		s, records := again(d, owned(0))
		want := api.Msg{Kind: 10, Id: x.id, Slot: 5, Rows: x.rows}
		if last := records[len(records)-1]; fmt.Sprint(last) != fmt.Sprint(want) || all(s) != before {
			t.Errorf("Install for %d: written %v", x.id, last)
		}
		size := d.Size()
		if e := s.Install(5, x.id, row(5, 9, 1, 0)); e != api.OK || d.Size() != size {
			t.Errorf("Install for %d again: %v", x.id, e)
		}
		if e := s.Install(5, x.id-1); e != api.ErrEpoch {
			t.Errorf("Install for the move ahead of %d: %v", x.id, e)
		}
		must(t, s.Learn(x.id, owned(4)))
		if rowsText(s.Rows()) != rowsText(sorted(x.rows...)) {
			t.Errorf("learnt %d: %s, want %s", x.id, rowsText(s.Rows()), rowsText(x.rows))
		}
	}
}

// P17.6: rows may come in for what is the node's or another's, served, fenced or promised.
func TestInstallAnywhere(t *testing.T) {
	_, s := of(t, owned(0, 3))
	must(t, s.Prepare(put(1, tup(6, 0))))
	if _, e := s.Fence(5, 1); e != api.OK {
		t.Fatal(e)
	}
	for _, slot := range []int{3, 4, 5, 6, 0, 15} {
		before := s.Serves(slot)
		if e := s.Install(slot, 2, row(slot, 1, 1, 0)); e != api.OK || s.Serves(slot) != before {
			t.Errorf("Install of slot %d: %v", slot, e)
		}
	}
	must(t, s.Learn(2, owned(2, 4)))
	if len(s.Rows()) != 5 || len(s.Pending()) != 1 || s.Locked(tup(6, 0)) != 1 {
		t.Errorf("learnt: %s", all(s))
	}
	must(t, s.Decide(1, true, 5))
	if len(s.Rows()) != 6 {
		t.Errorf("decided: %s", all(s))
	}
}

// P17.6: the error of the log's Write: what is too long for a record.
func TestTooLong(t *testing.T) {
	many := func(n int, user string) []api.Row {
		var rows []api.Row
		for i := range n {
			rows = append(rows, api.Row{Tuple: api.Tuple{Object: obj(5, 0), Relation: "v", User: fmt.Sprintf("%s%d", user, i)}, Since: 1})
		}
		return rows
	}
	for _, x := range []struct {
		n    int
		user string
		want api.Errno
	}{
		{400, "u:", api.OK}, {api.MaxList + 1, "u:", api.ErrLong}, {400, "user:a_long_name_of_somebody", api.ErrLong},
	} {
		d, s := of(t, owned(0))
		if e := s.Install(5, 3, many(x.n, x.user)...); e != x.want || (d.Size() > 0) != (e == api.OK) {
			t.Errorf("%d rows of %s: %v, want %v", x.n, x.user, e, x.want)
		}
		if x.want != api.OK {
			// It hasn't come in.
			must(t, s.Install(5, 2, row(5, 0, 1, 0)), s.Learn(3, owned(0)))
			if len(s.Rows()) != 1 {
				t.Errorf("%d rows of %s came in", x.n, x.user)
			}
		}
	}
}

// P17.5 to P17.7: a slot is given away whole and taken over, crashes or not, and comes back.
func TestGivenAway(t *testing.T) {
	d0, l0 := on(t, api.MaxDisk)
	s0, e0 := New(l0, 0, ring.Table{})
	d1, l1 := on(t, api.MaxDisk)
	s1, e1 := New(l1, 1, ring.Table{})
	must(t, e0, e1)
	reopen := func() {
		s0, s1 = reopened(d0, 0), reopened(d1, 1)
	}
	table := ring.Table{}
	rev := int64(0)
	for move := int64(1); move <= 6; move++ {
		giver, taker, to := s0, s1, 1
		if move%2 == 0 {
			giver, taker, to = s1, s0, 0
		}
		rev++
		must(t, giver.Prepare(api.Msg{Id: rev, Epoch: table.Epoch, Muts: put(0, tup(5, int(rev))).Muts}), giver.Decide(rev, true, rev))
		rows, e := giver.Fence(5, move)
		if e != api.OK || len(rows) != int(rev) {
			t.Fatalf("move %d: %s, %v", move, rowsText(rows), e)
		}
		must(t, taker.Install(5, move, rows...))
		reopen()
		if s0.Serves(5) || s1.Serves(5) {
			t.Errorf("move %d: it is served", move)
		}
		if move%2 == 0 {
			giver, taker = s1, s0
		} else {
			giver, taker = s0, s1
		}
		if e := giver.Prepare(api.Msg{Id: 100, Epoch: table.Epoch, Muts: put(0, tup(5, 0)).Muts}); e != api.ErrFenced {
			t.Errorf("move %d: Prepare: %v", move, e)
		}
		next, e := table.Move(5, to)
		must(t, e, taker.Learn(move, next))
		if !taker.Serves(5) || giver.Serves(5) || rowsText(taker.Rows()) != rowsText(rows) || rowsText(giver.Rows()) != rowsText(rows) {
			t.Errorf("move %d: %s; %s", move, rowsText(taker.Rows()), rowsText(giver.Rows()))
		}
		if rows, e := giver.Fence(5, move); e != api.OK || len(rows) != int(rev) {
			t.Errorf("move %d: told later: %s, %v", move, rowsText(rows), e)
		}
		must(t, giver.Learn(move, next))
		if giver.Serves(5) || len(giver.Rows()) != 0 {
			t.Errorf("move %d: %s is left", move, rowsText(giver.Rows()))
		}
		table = next
		reopen()
	}
}

// P17.7: what isn't done is served again, with all its rows.
func TestUndone(t *testing.T) {
	d, s := of(t, owned(0))
	commit(t, s, 1, tup(5, 0), tup(5, 1))
	rows, e := s.Fence(5, 1)
	must(t, e)
	must(t, s.Learn(1, owned(0)))
	for range 2 {
		if !s.Serves(5) || rowsText(s.Rows()) != rowsText(rows) {
			t.Errorf("undone: %s", all(s))
		}
		s, _ = again(d, owned(0))
	}
	if _, e := s.Fence(5, 1); e != api.ErrEpoch {
		t.Errorf("a late Fence: %v", e)
	}
	if rows, e := s.Fence(5, 2); e != api.OK || len(rows) != 2 {
		t.Errorf("Fence for the next move: %v, %v", rows, e)
	}
}
