package part

import (
	"fmt"
	"math"
	"math/rand"
	"reflect"
	"slices"
	"strings"
	"testing"

	"porter/api"
	"porter/log"
	"porter/store"
	"porter/tuple"
)

// P15.2: the error of the log's Write: what is too long for a record.
func TestTooLong(t *testing.T) {
	many := func(n int, id string, muts bool) api.Msg {
		m := api.Msg{Id: 5}
		for i := range n {
			x := api.Tuple{Object: fmt.Sprintf("d:%03x%s", i, id), Relation: "v", User: "u:a"}
			if muts {
				m.Muts = append(m.Muts, api.Mutation{Tuple: x})
			} else {
				m.Pre = append(m.Pre, api.Condition{Absent: true, Tuple: x})
			}
		}
		return m
	}
	for _, x := range []struct {
		what string
		m    api.Msg
		want api.Errno
	}{
		{"as many mutations as there may be", many(api.MaxList, "", true), api.OK},
		{"as many conditions as there may be", many(api.MaxList, "", false), api.OK},
		{"more mutations than there may be", many(api.MaxList+1, "", true), api.ErrLong},
		{"more conditions than there may be", many(api.MaxList+1, "", false), api.ErrLong},
		{"too many bytes", many(api.MaxList, strings.Repeat("x", 20), true), api.ErrLong},
	} {
		d, p := of(t)
		before := all(p)
		if e := p.Prepare(x.m); e != x.want {
			t.Errorf("%s: %v, want %v", x.what, e, x.want)
		}
		if x.want != api.OK && (all(p) != before || d.Size() != 0 || p.Locked(touched(x.m)[0]) != 0) {
			t.Errorf("%s: %s", x.what, all(p))
		}
	}
	// All else comes ahead of it.
	for want, add := range map[api.Errno]string{api.ErrCondition: "?" + bob, api.ErrLocked: "!" + cat} {
		_, p := of(t, some()...)
		m := many(api.MaxList+1, "", false)
		m.Id, m.Pre = 9, append(m.Pre, ask(9, add).Pre...)
		if e := p.Prepare(m); e != want {
			t.Errorf("too many, with %s: %v, want %v", add, e, want)
		}
	}
}

// P15.2 and P15.4, and P2: without room nothing is promised and nothing decided, and nothing has changed.
func TestNoRoom(t *testing.T) {
	probe, p := of(t)
	p.Prepare(ask(5, "+"+ann))
	promise := probe.Size()
	p.Decide(5, true, 3)
	commit := probe.Size() - promise
	probe, p = of(t, ask(5, "+"+ann))
	p.Decide(5, false, 3)
	abort := probe.Size() - promise
	for spare := range promise + 2 {
		d, l := on(t, promise+spare)
		p := New(l)
		p.Prepare(ask(5, "+"+ann))
		told := all(p)
		want := api.ErrFull
		if spare >= promise {
			want = api.OK
		}
		if e := p.Prepare(ask(6, "+"+bob)); e != want || (want == api.OK) != (all(p) != told) || (want == api.OK) != (p.Locked(tup(bob)) == 6) {
			t.Errorf("%d bytes left for a promise: %v, %s", spare, e, all(p))
		}
		if want == api.OK {
			continue
		}
		// What comes ahead of Write needs no room.
		for _, x := range []struct{ e, want api.Errno }{
			{p.Prepare(ask(5)), api.OK}, {p.Prepare(ask(0)), api.ErrRange}, {p.Prepare(ask(6, "+"+ann)), api.ErrLocked}, {p.Prepare(ask(6, "?"+bob)), api.ErrCondition}, {p.Decide(6, false, 1), api.OK}, {p.Decide(6, true, 1), api.ErrMissing}, {p.Decide(5, true, 0), api.ErrRange},
		} {
			if x.e != x.want {
				t.Errorf("%d bytes left: %v, want %v", spare, x.e, x.want)
			}
		}
		for _, decide := range []struct {
			commit bool
			size   int
		}{{true, commit}, {false, abort}} {
			fork := d.Fork()
			p, _ := again(fork)
			want := api.ErrFull
			if spare >= decide.size {
				want = api.OK
			}
			for range 2 {
				if e := p.Decide(5, decide.commit, 3); e != want || (want == api.OK) != p.Decided(5) || (want == api.OK) != (all(p) != told) {
					t.Errorf("%d bytes left for %v: %v, %s", spare, decide.commit, e, all(p))
				}
			}
			now := all(p)
			if p, _ := again(fork); all(p) != now {
				t.Errorf("%d bytes left, behind a crash: %s, want %s", spare, all(p), now)
			}
		}
	}
}

// P15.1: what others have in the same log is passed over, and stays.
func TestOneLogOfSeveral(t *testing.T) {
	other := api.Msg{Kind: 1, Id: 5, Rev: 44}
	d, l := on(t, 2000, other)
	p := New(l)
	p.Replay(other)
	p.Prepare(ask(5, "+"+ann))
	l.Add(other)
	p.Decide(5, true, 3)
	l.Add(other)
	told := all(p)
	p, records := again(d)
	if all(p) != told || rows(p) != ann+" 3-0" || len(records) != 4 || records[0].Kind != 1 || records[2].Kind != 1 {
		t.Errorf("behind a crash: %s of %v", all(p), records)
	}
}

// P2: what is handed in is neither changed nor kept, and what is answered is new memory.
func TestMemory(t *testing.T) {
	m, kept := ask(5, "+"+ann, "-"+bob, "!"+cat), ask(5, "+"+ann, "-"+bob, "!"+cat)
	spare := func(m api.Msg) api.Msg {
		m.Muts, m.Pre = append(make([]api.Mutation, 0, 9), m.Muts...), append(make([]api.Condition, 0, 9), m.Pre...)
		return m
	}
	wipe := func(list []api.Msg) {
		for _, m := range list[:cap(list)] {
			clear(m.Muts[:cap(m.Muts)])
			clear(m.Pre[:cap(m.Pre)])
		}
		clear(list[:cap(list)])
	}
	for _, replay := range []bool{false, true} {
		_, p := of(t)
		given := []api.Msg{spare(m)}
		if replay {
			p.Replay(given...)
		} else {
			p.Prepare(given[0])
		}
		if !reflect.DeepEqual(given[0], kept) || slices.ContainsFunc(given[0].Muts[:9][2:], func(x api.Mutation) bool { return x != api.Mutation{} }) || slices.ContainsFunc(given[0].Pre[:9][1:], func(x api.Condition) bool { return x != api.Condition{} }) {
			t.Errorf("changed: %v", given)
		}
		wipe(given)
		first, second := p.Pending(), p.Pending()
		wipe(first)
		if texts(second) != text(kept) || texts(p.Pending()) != text(kept) {
			t.Errorf("shared memory: %s, %s", texts(second), texts(p.Pending()))
		}
		if e := p.Decide(5, true, 3); e != api.OK || rows(p) != ann+" 3-0" || p.Locked(tup(cat)) != 0 || texts(second) != text(kept) {
			t.Errorf("Decide: %v, %s", e, rows(p))
		}
	}
	// Two promises' lists share nothing either.
	_, p := of(t)
	p.Prepare(ask(1, "+"+ann))
	p.Prepare(ask(2, "+"+bob))
	list := p.Pending()
	for i := range list {
		list[i].Muts = append(list[i].Muts[:0], api.Mutation{Tuple: tup(dan)}, api.Mutation{Tuple: tup(dan)})
	}
	if texts(p.Pending()) != text(ask(1, "+"+ann))+"; "+text(ask(2, "+"+bob)) {
		t.Errorf("shared memory: %s", texts(p.Pending()))
	}
}

// P15.1 and P15.3: many transactions are promised and decided, whichever order they have.
func TestManyPromises(t *testing.T) {
	const many = 100000
	var records []api.Msg
	for i := range int64(many) {
		records = append(records, api.Msg{Kind: 3, Id: i + 1, Muts: []api.Mutation{{Tuple: api.Tuple{Object: fmt.Sprintf("d:%d", i), Relation: "v", User: "u:a"}}}})
	}
	for i := range int64(many - 1) {
		records = append(records, decided(i*7919%many+1, 1+i%2))
	}
	_, l := on(t, 100)
	p := New(l)
	p.Replay(records...)
	last := int64(many-1)*7919%many + 1
	if list := p.Pending(); len(list) != 1 || list[0].Id != last || len(p.Rows()) != many-1 {
		t.Errorf("%d pending, %d rows", len(list), len(p.Rows()))
	}
	if e := p.Decide(last, true, 1); e != api.OK || len(p.Pending()) != 0 {
		t.Errorf("the last one: %v", e)
	}
}

// model is a participant as P15.1 to P15.4 tell it, told once more in a plainer way: all promises in a row, each with what became of it.
type model struct {
	promises []promised
	tuples   *store.Store
}

type promised struct {
	record  api.Msg
	decided bool
	commit  bool
	rev     int64
}

func (m *model) find(id int64) *promised {
	for i := range m.promises {
		if m.promises[i].record.Id == id {
			return &m.promises[i]
		}
	}
	return nil
}

// touched: all tuples of a message.
func touched(m api.Msg) []api.Tuple {
	var list []api.Tuple
	for _, x := range m.Muts {
		list = append(list, x.Tuple)
	}
	for _, x := range m.Pre {
		list = append(list, x.Tuple)
	}
	return list
}

func (m *model) locked(t api.Tuple) int64 {
	for _, p := range m.promises {
		if !p.decided && slices.Contains(touched(p.record), t) {
			return p.record.Id
		}
	}
	return 0
}

// prepare: the error that isn't Write's, and whether a record is to be written.
func (m *model) prepare(r api.Msg) (api.Errno, bool) {
	if p := m.find(r.Id); p != nil {
		if p.decided && !p.commit {
			return api.ErrState, false
		}
		return api.OK, false
	}
	if r.Id < 1 {
		return api.ErrRange, false
	}
	for i, x := range r.Muts {
		for _, y := range r.Muts[:i] {
			if x.Tuple == y.Tuple {
				return api.ErrTwice, false
			}
		}
	}
	for _, x := range touched(r) {
		if m.locked(x) != 0 {
			return api.ErrLocked, false
		}
	}
	for _, c := range r.Pre {
		there := slices.ContainsFunc(m.tuples.Rows(), func(r api.Row) bool { return r.Tuple == c.Tuple && (r.Until == 0 || r.Until > 1<<50) })
		if there == c.Absent {
			return api.ErrCondition, false
		}
	}
	return api.OK, true
}

// decide: the same of a decision.
func (m *model) decide(id int64, commit bool, rev int64) (api.Errno, bool) {
	p := m.find(id)
	switch {
	case p == nil && commit:
		return api.ErrMissing, false
	case p == nil:
		return api.OK, false
	case p.decided && (p.commit != commit || commit && p.rev != rev):
		return api.ErrState, false
	case p.decided:
		return api.OK, false
	case commit:
		e := m.tuples.Check(rev, p.record.Muts...)
		return e, e == api.OK
	}
	return api.OK, true
}

// judge: does a participant tell what the model does?
func (m *model) judge(t *testing.T, what string, p *Part, tuples []api.Tuple) {
	t.Helper()
	var pending []api.Msg
	for _, x := range m.promises {
		if !x.decided {
			pending = append(pending, x.record)
		}
		if p.Decided(x.record.Id) != x.decided {
			t.Fatalf("%s: Decided(%d): %v", what, x.record.Id, !x.decided)
		}
	}
	if texts(p.Pending()) != texts(pending) {
		t.Fatalf("%s: pending %s, want %s", what, texts(p.Pending()), texts(pending))
	}
	if !slices.Equal(p.Rows(), m.tuples.Rows()) {
		t.Fatalf("%s: rows %v, want %v", what, p.Rows(), m.tuples.Rows())
	}
	for _, x := range tuples {
		if p.Locked(x) != m.locked(x) {
			t.Fatalf("%s: %s is locked for %d, want %d", what, tuple.Print(x), p.Locked(x), m.locked(x))
		}
	}
}

// reader takes numbers from bytes; behind the last one they are 0.
type reader []byte

func (r *reader) next(below int) int {
	if len(*r) == 0 {
		return 0
	}
	x := int((*r)[0])
	*r = (*r)[1:]
	return x % below
}

// message: any message of a few tuples and Ids.
func (r *reader) message(tuples []api.Tuple) api.Msg {
	m := api.Msg{Kind: 3, From: r.next(3), Id: int64(r.next(20))}
	for range r.next(4) {
		m.Muts = append(m.Muts, api.Mutation{Delete: r.next(2) == 0, Tuple: tuples[r.next(len(tuples))]})
	}
	for range r.next(3) {
		m.Pre = append(m.Pre, api.Condition{Absent: r.next(3) > 0, Tuple: tuples[r.next(len(tuples))]})
	}
	return m
}

// play: any calls of a participant, as some bytes say, on a disk with so many bytes of room, against its model.
func play(t *testing.T, room int, calls reader) {
	t.Helper()
	tuples := []api.Tuple{tup(ann), tup(bob), tup(cat), tup(dan), tup("doc:c#viewer@user:ann"), tup("doc:c#viewer@user:bob"), tup("doc:d#owner@user:ann"), tup("doc:d#owner@user:bob")}
	d, l := on(t, room)
	p, m := New(l), &model{tuples: store.New()}
	for i := 0; len(calls) > 0; i++ {
		size := d.Size()
		var what string
		var e, want api.Errno
		var writes bool
		var done func()
		switch kind := calls.next(10); {
		case kind < 5:
			r := calls.message(tuples)
			what = "Prepare of " + text(r)
			want, writes = m.prepare(r)
			e = p.Prepare(r)
			done = func() { m.promises = append(m.promises, promised{record: r}) }
		case kind < 9:
			id, commit, rev := int64(calls.next(20)), calls.next(3) > 0, int64(calls.next(16))
			what = fmt.Sprintf("Decide(%d, %v, %d)", id, commit, rev)
			want, writes = m.decide(id, commit, rev)
			e = p.Decide(id, commit, rev)
			done = func() {
				x := m.find(id)
				x.decided, x.commit, x.rev = true, commit, rev
				if commit {
					m.tuples.Apply(rev, x.record.Muts...)
				}
			}
		default:
			what = "a crash"
			p, _ = again(d)
		}
		if writes && e == api.ErrFull {
			want, writes = api.ErrFull, false
		}
		if e != want || writes != (d.Size() > size) || d.Durable() != d.Size() {
			t.Fatalf("call %d, %s: %v, %d bytes more; want %v, %v", i, what, e, d.Size()-size, want, writes)
		}
		if writes {
			done()
		}
		m.judge(t, fmt.Sprintf("call %d, %s", i, what), p, tuples)
	}
}

// P15.1 to P15.4, and P2: any calls, one behind the other.
func TestAnyCalls(t *testing.T) {
	r := rand.New(rand.NewSource(15))
	for range 2000 {
		calls := make(reader, r.Intn(600))
		r.Read(calls)
		play(t, 200+r.Intn(4000), calls)
	}
}

// P1: any records and any calls.
func FuzzNothingPanics(f *testing.F) {
	f.Add(300, 3, int64(7), int64(3), true, ann, []byte{0, 1, 5, 2, 1, 0, 6, 5, 1, 3, 9})
	f.Add(0, 4, int64(math.MinInt64), int64(math.MaxInt64), false, "\xff#", []byte{})
	f.Add(90, -1, int64(0), int64(-1), true, "", []byte{9, 9, 9})
	f.Fuzz(func(t *testing.T, room, kind int, id, rev int64, flag bool, s string, calls []byte) {
		play(t, room&0xfff, calls)
		_, l := on(t, room&0xff)
		x := api.Tuple{Object: s, Relation: s, User: s}
		if y, e := tuple.Parse(s); e == api.OK {
			x = y
		}
		r := api.Msg{Kind: kind, From: room, Id: id, Rev: rev, Flag: flag, Muts: []api.Mutation{{Tuple: x}, {Delete: flag, Tuple: x}}, Pre: []api.Condition{{Absent: flag, Tuple: x}}}
		p := New(l)
		for range 2 {
			p.Replay(r, decided(id, rev), r)
			r.Kind = KPrepare
			p.Replay(r, api.Msg{Kind: KDecide, Id: id, Rev: rev, Flag: flag}, api.Msg{})
		}
		p.Prepare(r)
		p.Decide(id, flag, rev)
		r.Id, r.Muts = ^id, r.Muts[:1]
		before := fmt.Sprint(p.Pending(), p.Rows(), p.Locked(x))
		if e := p.Prepare(r); e != api.OK && fmt.Sprint(p.Pending(), p.Rows(), p.Locked(x)) != before {
			t.Errorf("Prepare of %v: %v, but changed", r, e)
		} else if e == api.OK && !p.Decided(^id) && p.Locked(x) != ^id {
			t.Errorf("Prepare of %v: it isn't locked", r)
		}
		p.Decide(^id, flag, rev)
	})
}

// P15.1, and P2: the participant's log is the one that it was made with: two participants go on by themselves.
func TestTwoParticipants(t *testing.T) {
	d, p := of(t)
	_, q := of(t)
	p.Prepare(ask(5, "+"+ann))
	if e := q.Prepare(ask(6, "+"+ann)); e != api.OK || q.Locked(tup(ann)) != 6 || p.Locked(tup(ann)) != 5 {
		t.Errorf("another one: %v", e)
	}
	if _, records := log.Open(d); len(records) != 1 || records[0].Id != 5 {
		t.Errorf("written: %s", texts(records))
	}
}
