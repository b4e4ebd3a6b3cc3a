package shard

import (
	"fmt"
	"reflect"
	"slices"
	"testing"

	"porter/api"
	"porter/disk"
	"porter/log"
	"porter/ring"
)

// some: what a share does in these tests, call by call; each writes a record.
func some() []func(s *Shard) api.Errno {
	fence := func(slot int, id int64) func(s *Shard) api.Errno {
		return func(s *Shard) api.Errno {
			_, e := s.Fence(slot, id)
			if e == api.ErrBusy {
				return api.OK
			}
			return e
		}
	}
	install := func(slot int, id int64, rows ...api.Row) func(s *Shard) api.Errno {
		return func(s *Shard) api.Errno { return s.Install(slot, id, rows...) }
	}
	learn := func(version int64, x ring.Table) func(s *Shard) api.Errno {
		return func(s *Shard) api.Errno { return s.Learn(version, x) }
	}
	prepare := func(epoch int64, m api.Msg) func(s *Shard) api.Errno {
		m.Epoch = epoch
		return func(s *Shard) api.Errno { return s.Prepare(m) }
	}
	decide := func(id, rev int64) func(s *Shard) api.Errno {
		return func(s *Shard) api.Errno { return s.Decide(id, rev > 0, rev) }
	}
	return []func(s *Shard) api.Errno{
		prepare(0, put(1, tup(5, 0), tup(6, 0), tup(7, 0))), decide(1, 1), prepare(0, put(2, tup(5, 1), tup(6, 1))), fence(5, 1), install(4, 1, row(4, 0, 1, 0)), decide(2, 2),
		learn(1, owned(1, 5)), install(6, 3, row(6, 2, 1, 2)), prepare(1, put(3, tup(4, 1), tup(7, 1))), fence(6, 2), learn(2, owned(1, 5)), prepare(1, absent(4, tup(4, 2))), decide(3, 3), fence(7, 3), install(5, 4, row(5, 1, 2, 0)), install(5, 5, row(5, 2, 2, 0)),
		learn(3, owned(2, 7)), decide(4, 0), learn(6, owned(3, 6)), prepare(3, put(5, tup(5, 2), tup(0, 0))),
	}
}

// P17.1: each prefix of the records is the share as it was then, at once and record by record, and it goes on from there.
func TestPrefixes(t *testing.T) {
	d, s := of(t, owned(0))
	told, sizes := []string{all(s)}, []int{0}
	for i, call := range some() {
		if e := call(s); e != api.OK || d.Size() == sizes[i] {
			t.Fatalf("call %d: %v", i, e)
		}
		told, sizes = append(told, all(s)), append(sizes, d.Size())
	}
	bytes := d.Bytes()
	for cut := range len(bytes) + 1 {
		part, _ := disk.New(api.MaxDisk)
		part.Append(bytes[:cut])
		part.Sync()
		whole := 0
		for whole+1 < len(sizes) && sizes[whole+1] <= cut {
			whole++
		}
		s, records := again(part, owned(0))
		if all(s) != told[whole] || len(records) != whole {
			t.Fatalf("%d bytes: %s, want %s", cut, all(s), told[whole])
		}
		if cut != sizes[whole] {
			continue
		}
		one, _ := New(nil, here, owned(0))
		for range 2 {
			for _, r := range records {
				one.Replay(r)
			}
			// What is known already has no effect any more.
			if all(one) != told[whole] {
				t.Errorf("%d records, one by one: %s, want %s", whole, all(one), told[whole])
			}
		}
		for i, call := range some()[whole:] {
			if e := call(s); e != api.OK || all(s) != told[whole+i+1] {
				t.Fatalf("%d records, and the call %d: %v, %s, want %s", whole, whole+i, e, all(s), told[whole+i+1])
			}
		}
	}
}

// P17.1 and P17.3: an elder table is passed over in records, too, and so are fences and rows for moves that are past.
func TestElderRecords(t *testing.T) {
	_, s := of(t, owned(0))
	nodes := owned(0).Owners
	s.Replay(api.Msg{Kind: KTable, Id: 4, Epoch: 3, Nodes: nodes[:]}, api.Msg{Kind: KTable, Id: 3, Epoch: 9, Nodes: make([]int, 16)}, api.Msg{Kind: KFence, Id: 4, Slot: 5}, api.Msg{Kind: KInstall, Id: 3, Slot: 5, Rows: []api.Row{row(5, 0, 1, 0)}})
	if table, version := s.Table(); table != owned(3) || version != 4 || !s.Serves(5) || len(s.Rows()) != 0 {
		t.Errorf("replayed: %s", all(s))
	}
	must(t, s.Learn(5, owned(5)))
	if len(s.Rows()) != 0 {
		t.Errorf("learnt: %s", all(s))
	}
}

// P17.1: what others have in the same log is passed over, and stays.
func TestOneLogOfSeveral(t *testing.T) {
	other := func(kind int) api.Msg {
		return api.Msg{Kind: kind, Id: 2, Rev: 4, Epoch: 3, Slot: 5, Nodes: make([]int, 16), Muts: []api.Mutation{{Tuple: tup(5, 3)}}, Rows: []api.Row{row(5, 3, 1, 0)}}
	}
	kinds := []int{0, 1, 2, 5, 6, 7, 11, 12, 13, 14, -8, 264}
	d, l := on(t, api.MaxDisk)
	s, _ := New(l, here, owned(0))
	for i, call := range some() {
		must(t, l.Add(other(kinds[i%len(kinds)])), call(s))
	}
	told := all(s)
	s, records := again(d, owned(0))
	if all(s) != told || len(records) != 2*len(some()) || records[2].Kind != 1 {
		t.Errorf("behind a crash: %s, want %s", all(s), told)
	}
}

// P17.1, and P2: two shares of one node go on by themselves.
func TestTwoShares(t *testing.T) {
	d, s := of(t, owned(0))
	e, other := of(t, owned(0))
	if _, e := s.Fence(5, 1); e != api.OK {
		t.Fatal(e)
	}
	must(t, other.Learn(3, owned(1)), other.Install(5, 4, row(5, 0, 1, 0)))
	if table, version := s.Table(); s.Serves(5) || !other.Serves(5) || table != owned(0) || version != 0 {
		t.Errorf("%s; %s", all(s), all(other))
	}
	if _, records := log.Open(d); len(records) != 1 || records[0].Kind != KFence {
		t.Errorf("written: %v", records)
	}
	if _, records := log.Open(e); len(records) != 2 || records[0].Kind != KTable || records[1].Kind != KInstall {
		t.Errorf("written: %v", records)
	}
}

// P17.3 to P17.6, and P2: without room a call does nothing; with just enough it does all.
func TestNoRoom(t *testing.T) {
	learnt := func(s *Shard) []string {
		var told []string
		for _, version := range []int64{1, 2, 9} {
			s.Learn(version, owned(version))
			told = append(told, all(s))
		}
		return told
	}
	for i := range some() {
		probe, s := of(t, owned(0))
		for _, call := range some()[:i] {
			must(t, call(s))
		}
		size := probe.Size()
		must(t, some()[i](s))
		record := probe.Size() - size
		for _, spare := range []int{0, 1, record - 1, record, record + 1} {
			d, l := on(t, size+spare)
			s, _ := New(l, here, owned(0))
			for _, call := range some()[:i] {
				must(t, call(s))
			}
			told, want := all(s), api.ErrFull
			if spare >= record {
				want = api.OK
			}
			for range 2 {
				if e := some()[i](s); e != want || want != api.OK && (all(s) != told || d.Size() != size) {
					t.Errorf("call %d, %d bytes of %d: %v, %s", i, spare, record, e, all(s))
				}
				if want == api.OK {
					break
				}
			}
			if want == api.OK {
				continue
			}
			// What is told later is as if the call had never been.
			roomy, other := of(t, owned(0))
			for _, call := range some()[:i] {
				must(t, call(other))
			}
			if roomy.Size() != size {
				t.Fatal("other records")
			}
			bytes, _ := disk.New(api.MaxDisk)
			bytes.Append(d.Bytes())
			bytes.Sync()
			behind, _ := again(bytes, owned(0))
			if !slices.Equal(learnt(behind), learnt(other)) {
				t.Errorf("call %d, %d bytes of %d, behind a crash: %s, want %s", i, spare, record, all(behind), all(other))
			}
		}
	}
}

// P17.5: what is fenced already needs no room, and what comes ahead of Write neither.
func TestErrorsWithoutRoom(t *testing.T) {
	probe, s := of(t, owned(0, 3))
	if _, e := s.Fence(5, 1); e != api.OK {
		t.Fatal(e)
	}
	_, l := on(t, probe.Size())
	s, _ = New(l, here, owned(0, 3))
	if _, e := s.Fence(5, 1); e != api.OK {
		t.Fatal(e)
	}
	fence := func(slot int, id int64) api.Errno {
		_, e := s.Fence(slot, id)
		return e
	}
	for i, x := range []struct{ e, want api.Errno }{
		{fence(5, 1), api.OK}, {fence(6, 1), api.ErrFull}, {fence(6, 2), api.ErrEpoch}, {fence(3, 1), api.ErrState}, {fence(16, 1), api.ErrRange},
		{s.Install(5, 1), api.ErrFull}, {s.Install(5, 0), api.ErrEpoch}, {s.Install(5, 1, row(5, 0, 0, 0)), api.ErrRange}, {s.Install(5, 1, row(6, 0, 1, 0)), api.ErrRange},
		{s.Learn(1, owned(1)), api.ErrFull}, {s.Learn(0, owned(1)), api.OK}, {s.Learn(1, ring.Table{Epoch: -1}), api.ErrRange},
		{s.Prepare(put(1, tup(6, 0))), api.ErrFull}, {s.Prepare(put(1, tup(5, 0))), api.ErrFenced},
	} {
		if x.e != x.want {
			t.Errorf("call %d: %v, want %v", i, x.e, x.want)
		}
	}
	if s.Serves(5) || !s.Serves(6) {
		t.Errorf("then: %s", all(s))
	}
}

// P2: what is handed in is neither changed nor kept, and what is answered is new memory.
func TestMemory(t *testing.T) {
	rows := append(make([]api.Row, 0, 9), row(5, 0, 1, 2), row(5, 0, 3, 0), row(5, 1, 1, 0))
	kept := slices.Clone(rows)
	_, s := of(t, owned(0))
	must(t, s.Install(5, 1, rows...))
	if !reflect.DeepEqual(rows[:9], append(slices.Clone(kept), make([]api.Row, 6)...)) {
		t.Errorf("changed: %v", rows[:9])
	}
	clear(rows[:9])
	must(t, s.Learn(1, owned(1)))
	if !slices.Equal(s.Rows(), kept) {
		t.Errorf("kept: %s", rowsText(s.Rows()))
	}
	first, e := s.Fence(5, 2)
	second, _ := s.Fence(5, 2)
	clear(first[:cap(first)])
	third, _ := s.Fence(5, 2)
	if e != api.OK || !slices.Equal(second, kept) || !slices.Equal(third, kept) || !slices.Equal(s.Rows(), kept) {
		t.Errorf("shared memory: %v, %v", second, third)
	}
	// Replay: of a record's lists.
	nodes := append(make([]int, 0, 20), make([]int, 16)...)
	for i := range nodes {
		nodes[i] = here
	}
	in := append(make([]api.Row, 0, 9), kept...)
	records := []api.Msg{{Kind: KInstall, Id: 1, Slot: 5, Rows: in}, {Kind: KTable, Id: 2, Epoch: 7, Nodes: nodes}}
	s, _ = New(nil, here, ring.Table{})
	s.Replay(records[0])
	clear(in[:9])
	s.Replay(records[1])
	clear(nodes[:20])
	clear(records)
	if table, version := s.Table(); table != owned(7) || version != 2 || !slices.Equal(s.Rows(), kept) {
		t.Errorf("kept: %s", all(s))
	}
	// A table that is answered is one's own.
	table, _ := s.Table()
	table.Owners[3] = 7
	if again, _ := s.Table(); again != owned(7) {
		t.Errorf("shared memory: %v", again)
	}
	list, _ := s.Fetch(obj(5, 0), "viewer", 3)
	list[0] = "x"
	if again, _ := s.Fetch(obj(5, 0), "viewer", 3); !slices.Equal(again, []string{"user:ann"}) {
		t.Errorf("shared memory: %v", again)
	}
}

// P17.3 and P17.4: with many rows and many promises, too.
func TestMany(t *testing.T) {
	const many = 30000
	var records []api.Msg
	for i := range int64(many) {
		records = append(records, api.Msg{Kind: 3, Id: i + 1, Muts: []api.Mutation{{Tuple: api.Tuple{Object: fmt.Sprintf("d:%d", i%1000), Relation: "v", User: fmt.Sprintf("u:%d", i)}}}})
		if i%2 == 0 {
			records = append(records, api.Msg{Kind: 4, Id: i + 1, Flag: true, Rev: i + 1})
		}
	}
	_, l := on(t, api.MaxDisk)
	s, _ := New(l, here, owned(0))
	s.Replay(records...)
	if len(s.Rows()) != many/2 || len(s.Pending()) != many/2 {
		t.Fatalf("%d rows, %d pending", len(s.Rows()), len(s.Pending()))
	}
	for i := range int64(5000) {
		must(t, s.Prepare(put(many+i+1, api.Tuple{Object: fmt.Sprintf("e:%d", i), Relation: "v", User: "u:a"})))
	}
	for version := range int64(100) {
		must(t, s.Learn(version+1, owned(0)))
	}
	want := 0
	for _, r := range s.Rows() {
		if ring.Slot(r.Tuple.Object) != 3 {
			want++
		}
	}
	must(t, s.Learn(1000, owned(0, 3)))
	if len(s.Rows()) != want || want == many/2 {
		t.Errorf("%d rows, want %d", len(s.Rows()), want)
	}
}
