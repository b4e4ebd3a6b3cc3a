package shard

import (
	"fmt"
	"math"
	"math/rand"
	"slices"
	"testing"

	"porter/api"
	"porter/disk"
	"porter/log"
	"porter/part"
	"porter/ring"
	"porter/store"
)

// model is a share as P17.1 to P17.6 tell it, told once more in a plainer way, with a participant that has a log of its own and room for all.
type model struct {
	*part.Part
	table   ring.Table
	version int64
	fenced  map[int]int64
	came    map[int]install
}

type install struct {
	id   int64
	rows []api.Row
}

func newModel(first ring.Table) *model {
	d, _ := disk.New(api.MaxDisk)
	l, _ := log.Open(d)
	return &model{Part: part.New(l), table: first, fenced: map[int]int64{}, came: map[int]install{}}
}

func (m *model) serves(slot int) bool {
	_, fenced := m.fenced[slot]
	return slot >= 0 && slot < 16 && m.table.Owners[slot] == here && !fenced
}

// in: the rows in a slot.
func (m *model) in(slot int) []api.Row {
	var rows []api.Row
	for _, r := range m.Rows() {
		if ring.Slot(r.Tuple.Object) == slot {
			rows = append(rows, r)
		}
	}
	return rows
}

// slotsOf: the slots of a message's mutations and conditions.
func slotsOf(r api.Msg) map[int]int {
	slots := map[int]int{}
	for _, x := range r.Muts {
		slots[ring.Slot(x.Tuple.Object)]++
	}
	for _, x := range r.Pre {
		slots[ring.Slot(x.Tuple.Object)]++
	}
	return slots
}

// learn: what a table of a version does that isn't passed over.
func (m *model) learn(version int64, t ring.Table) {
	for slot := range 16 {
		came, found := m.came[slot]
		due := found && came.id > m.version && came.id <= version
		if t.Owners[slot] != here || due {
			for _, r := range m.in(slot) {
				m.Drop(r.Tuple.Object)
			}
		}
		if t.Owners[slot] == here && due {
			m.Load(came.rows...)
		}
		if found && came.id <= version {
			delete(m.came, slot)
		}
		if id, found := m.fenced[slot]; found && id <= version {
			delete(m.fenced, slot)
		}
	}
	m.table, m.version = t, version
}

// refuses: layer 17's error of Prepare.
func (m *model) refuses(r api.Msg) api.Errno {
	if m.Decided(r.Id) || slices.ContainsFunc(m.Pending(), func(p api.Msg) bool { return p.Id == r.Id }) {
		return api.OK
	}
	if r.Epoch != m.table.Epoch {
		return api.ErrEpoch
	}
	for slot := range slotsOf(r) {
		if !m.serves(slot) {
			return api.ErrFenced
		}
	}
	return api.OK
}

// fence: the error ahead of Write's, and whether there is a record to write.
func (m *model) fence(slot int, id int64) (api.Errno, bool) {
	fenced, found := m.fenced[slot]
	switch {
	case slot < 0 || slot > 15:
		return api.ErrRange, false
	case id != m.version+1 || found && id < fenced:
		return api.ErrEpoch, false
	case m.table.Owners[slot] != here:
		return api.ErrState, false
	}
	return api.OK, !found || fenced != id
}

// busy: is something promised in a slot?
func (m *model) busy(slot int) bool {
	return slices.ContainsFunc(m.Pending(), func(p api.Msg) bool { return slotsOf(p)[slot] > 0 })
}

// install: the same for rows that come in.
func (m *model) install(slot int, id int64, rows []api.Row) (api.Errno, bool) {
	if slot < 0 || slot > 15 {
		return api.ErrRange, false
	}
	for _, r := range rows {
		if ring.Slot(r.Tuple.Object) != slot {
			return api.ErrRange, false
		}
	}
	came, found := m.came[slot]
	switch {
	case id <= m.version || found && id < came.id:
		return api.ErrEpoch, false
	case found && id == came.id:
		return api.OK, false
	}
	e := store.New().Load(rows...)
	return e, e == api.OK
}

// judge: does a share tell what the model does?
func (m *model) judge(t *testing.T, what string, s *Shard, tuples []api.Tuple) {
	t.Helper()
	table, version := s.Table()
	if table != m.table || version != m.version {
		t.Fatalf("%s: %v of %d, want %v of %d", what, table, version, m.table, m.version)
	}
	for slot := -1; slot <= 16; slot++ {
		if s.Serves(slot) != m.serves(slot) {
			t.Fatalf("%s: slot %d: served %v", what, slot, s.Serves(slot))
		}
	}
	if rowsText(s.Rows()) != rowsText(m.Rows()) || fmt.Sprint(s.Pending()) != fmt.Sprint(m.Pending()) {
		t.Fatalf("%s: %s; want rows %s, pending %v", what, all(s), rowsText(m.Rows()), m.Pending())
	}
	for _, x := range tuples {
		if s.Locked(x) != m.Locked(x) {
			t.Fatalf("%s: %v is locked for %d", what, x, s.Locked(x))
		}
	}
	for id := range int64(14) {
		if s.Decided(id) != m.Decided(id) {
			t.Fatalf("%s: decided %d: %v", what, id, s.Decided(id))
		}
	}
}

// reader takes numbers from bytes; behind the last one they are 0.
type reader []byte

func (r *reader) next(below int) int {
	if len(*r) == 0 {
		return 0
	}
	x := int((*r)[0])
	*r = (*r)[1:]
	return x % below
}

// slot: any of three slots, or of all there are, and more.
func (r *reader) slot() int {
	if x := r.next(10); x > 0 {
		return 4 + x%3
	}
	return r.next(18) - 1
}

// table: any table of which node here owns much.
func (r *reader) table(epoch int64) ring.Table {
	t := owned(epoch)
	for range r.next(4) {
		t.Owners[4+r.next(4)] = r.next(3)
	}
	return t
}

// rows: some rows of a slot, mostly right.
func (r *reader) rows(slot int) []api.Row {
	var rows []api.Row
	since := int64(1)
	for range r.next(4) {
		x := row(max(min(slot, 15), 0), r.next(2), since, 0)
		if r.next(3) > 0 {
			x.Until = since + int64(r.next(4))
		}
		if r.next(12) == 0 {
			x.Tuple = tup(r.next(16), 0)
		}
		rows = append(rows, x)
		since += int64(r.next(6))
	}
	return rows
}

// player is a share and its model, both driven by the same bytes.
type player struct {
	d      *disk.Disk
	s      *Shard
	m      *model
	first  ring.Table
	tuples []api.Tuple
}

func (p *player) prepare(calls *reader) (what string, e, want api.Errno, writes bool, done func()) {
	r := api.Msg{Kind: 3, From: calls.next(3), Id: int64(calls.next(13)), Epoch: p.m.table.Epoch}
	if calls.next(5) == 0 {
		r.Epoch = int64(calls.next(4))
	}
	for range calls.next(3) {
		r.Muts = append(r.Muts, api.Mutation{Delete: calls.next(3) == 0, Tuple: p.tuples[calls.next(len(p.tuples))]})
	}
	for range calls.next(3) {
		r.Pre = append(r.Pre, api.Condition{Absent: calls.next(4) > 0, Tuple: p.tuples[calls.next(len(p.tuples))]})
	}
	want = p.m.refuses(r)
	size := p.d.Size()
	e = p.s.Prepare(r)
	if want == api.OK && e != api.ErrFull {
		before := len(p.m.Pending())
		want = p.m.Prepare(r)
		writes = len(p.m.Pending()) > before
	}
	return fmt.Sprintf("Prepare of %v (%d bytes)", r, size), e, want, writes, func() {}
}

func (p *player) decide(calls *reader) (what string, e, want api.Errno, writes bool, done func()) {
	id, commit, rev := int64(calls.next(13)), calls.next(4) > 0, int64(calls.next(30))
	e = p.s.Decide(id, commit, rev)
	if e != api.ErrFull {
		before := len(p.m.Pending())
		want = p.m.Decide(id, commit, rev)
		writes = len(p.m.Pending()) < before
	}
	return fmt.Sprintf("Decide(%d, %v, %d)", id, commit, rev), e, want, writes, func() {}
}

func (p *player) learn(calls *reader) (what string, e, want api.Errno, writes bool, done func()) {
	version := p.m.version + int64(calls.next(4)) - 1
	x := calls.table(int64(calls.next(4)))
	if calls.next(16) == 0 {
		x.Owners[calls.next(16)] = 8
	}
	if x.Check(8) != api.OK {
		want = api.ErrRange
	}
	writes = want == api.OK && version > p.m.version
	return fmt.Sprintf("Learn(%d, %v)", version, x), p.s.Learn(version, x), want, writes, func() { p.m.learn(version, x) }
}

func (p *player) install(calls *reader) (what string, e, want api.Errno, writes bool, done func()) {
	slot, id := calls.slot(), p.m.version+int64(calls.next(5))-1
	rows := calls.rows(slot)
	want, writes = p.m.install(slot, id, rows)
	return fmt.Sprintf("Install(%d, %d, %v)", slot, id, rows), p.s.Install(slot, id, rows...), want, writes, func() { p.m.came[slot] = install{id, rows} }
}

func (p *player) fence(t *testing.T, calls *reader) (what string, e, want api.Errno, writes bool, done func()) {
	slot, id := calls.slot(), p.m.version+1
	if calls.next(6) == 0 {
		id += int64(calls.next(3)) - 1
	}
	want, writes = p.m.fence(slot, id)
	rows, e := p.s.Fence(slot, id)
	if want == api.OK && p.m.busy(slot) {
		want = api.ErrBusy
	}
	if e == api.OK && rowsText(rows) != rowsText(p.m.in(slot)) || e != api.OK && len(rows) > 0 {
		t.Fatalf("Fence(%d, %d): %s, want %s", slot, id, rowsText(rows), rowsText(p.m.in(slot)))
	}
	return fmt.Sprintf("Fence(%d, %d)", slot, id), e, want, writes, func() { p.m.fenced[slot] = id }
}

func (p *player) fetch(t *testing.T, calls *reader) {
	x, rev := p.tuples[calls.next(len(p.tuples))], int64(calls.next(30))-1
	users, e := p.s.Fetch(x.Object, x.Relation, rev)
	wanted, want := p.m.Users(x.Object, x.Relation, rev)
	if !p.m.serves(ring.Slot(x.Object)) {
		wanted, want = nil, api.ErrFenced
	}
	if !slices.Equal(users, wanted) || e != want {
		t.Fatalf("Fetch(%v, %d): %v, %v, want %v, %v", x, rev, users, e, wanted, want)
	}
}

// play: any calls of a share, as some bytes say, on a disk with so many bytes of room, against its model.
func play(t *testing.T, room int, calls reader) {
	t.Helper()
	d, l := on(t, room)
	first := calls.table(int64(calls.next(3)))
	s, _ := New(l, here, first)
	p := &player{d: d, s: s, m: newModel(first), first: first}
	for _, slot := range []int{4, 4, 5, 5, 6, 7, 0} {
		p.tuples = append(p.tuples, tup(slot, len(p.tuples)%2))
	}
	for i := 0; len(calls) > 0; i++ {
		size := d.Size()
		what, e, want, writes, done := "a crash", api.OK, api.OK, false, func() {}
		switch kind := calls.next(20); {
		case kind < 6:
			what, e, want, writes, done = p.prepare(&calls)
		case kind < 11:
			what, e, want, writes, done = p.decide(&calls)
		case kind < 13:
			what, e, want, writes, done = p.learn(&calls)
		case kind < 15:
			what, e, want, writes, done = p.install(&calls)
		case kind < 17:
			what, e, want, writes, done = p.fence(t, &calls)
		case kind < 19:
			p.fetch(t, &calls)
		default:
			p.s, _ = again(d, first)
		}
		if e == api.ErrFull {
			// No record here is longer than that.
			if d.Left() > 400 {
				t.Fatalf("call %d, %s: ErrFull, with %d bytes left", i, what, d.Left())
			}
			want, writes = api.ErrFull, false
		}
		if e != want || writes != (d.Size() > size) || d.Durable() != d.Size() {
			t.Fatalf("call %d, %s: %v, %d bytes more; want %v, %v", i, what, e, d.Size()-size, want, writes)
		}
		if writes {
			done()
		}
		p.m.judge(t, fmt.Sprintf("call %d, %s", i, what), p.s, p.tuples)
	}
}

// P17.1 to P17.7, and P2: any calls, one behind the other.
func TestAnyCalls(t *testing.T) {
	r := rand.New(rand.NewSource(17))
	for range 1500 {
		calls := make(reader, r.Intn(700))
		r.Read(calls)
		play(t, 200+r.Intn(6000), calls)
	}
}

// P1: any records and any calls.
func FuzzNothingPanics(f *testing.F) {
	f.Add(300, 8, int64(7), int64(3), 5, "doc:a", []byte{0, 1, 5, 2, 1, 0, 11, 2, 1, 13, 4, 16, 5, 0, 19})
	f.Add(0, 9, int64(math.MinInt64), int64(math.MaxInt64), math.MinInt, "\xff#", []byte{})
	f.Add(90, 10, int64(math.MaxInt64), int64(-1), 16, "", []byte{19, 19, 19})
	f.Fuzz(func(t *testing.T, room, kind int, id, epoch int64, slot int, text string, calls []byte) {
		play(t, room&0xfff, calls)
		_, l := on(t, room&0xff)
		first := ring.Table{Epoch: epoch}
		s, e := New(l, slot, first)
		if e != api.OK {
			s, _ = New(l, 0, ring.Table{})
		}
		x := api.Tuple{Object: text, Relation: text, User: text}
		r := api.Msg{Kind: kind, Id: id, Epoch: epoch, Slot: slot, Nodes: []int{slot, 0, -1}, Muts: []api.Mutation{{Tuple: x}}, Rows: []api.Row{{Tuple: x, Since: epoch, Until: id}, {}}}
		for _, k := range []int{kind, KInstall, KFence, KTable, kind} {
			r.Kind = k
			s.Replay(r, api.Msg{Kind: k, Id: id}, api.Msg{})
			r.Nodes = []int{15: slot}
			s.Replay(r)
		}
		for slot := range api.Slots {
			s.Serves(slot)
			s.Fence(slot, id)
		}
		s.Fence(slot, id)
		s.Install(slot, id, r.Rows...)
		s.Install(ring.Slot(text), ^id, api.Row{Tuple: x, Since: 1})
		s.Fetch(text, text, id)
		s.Prepare(r)
		s.Decide(id, true, epoch)
		before := all(s)
		if e := s.Learn(id, ring.Table{Epoch: epoch, Owners: [16]int{slot}}); e != api.OK && all(s) != before {
			t.Errorf("Learn: %v, but changed", e)
		}
	})
}
