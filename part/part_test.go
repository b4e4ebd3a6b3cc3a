package part

import (
	"fmt"
	"math"
	"reflect"
	"slices"
	"strings"
	"testing"

	"porter/api"
	"porter/disk"
	"porter/log"
	"porter/tuple"
)

const (
	ann = "doc:a#viewer@user:ann"
	bob = "doc:a#viewer@user:bob"
	cat = "doc:b#viewer@user:cat"
	dan = "doc:b#viewer@group:d#member"
)

// tup: the tuple of a text.
func tup(s string) api.Tuple {
	x, e := tuple.Parse(s)
	if e != api.OK {
		panic(s)
	}
	return x
}

// ask: a message of a transaction, asked for by node 2: + and - are mutations, ? and ! conditions that a tuple is there or isn't.
func ask(id int64, texts ...string) api.Msg {
	m := api.Msg{Kind: 3, From: 2, Id: id}
	for _, s := range texts {
		switch x := tup(s[1:]); s[0] {
		case '+', '-':
			m.Muts = append(m.Muts, api.Mutation{Delete: s[0] == '-', Tuple: x})
		default:
			m.Pre = append(m.Pre, api.Condition{Absent: s[0] == '!', Tuple: x})
		}
	}
	return m
}

// decided: a record that a transaction is decided: committed at a revision, or not (0).
func decided(id, rev int64) api.Msg { return api.Msg{Kind: 4, Id: id, Flag: rev != 0, Rev: rev} }

// on: a disk with room for so many bytes, and a log with these records on it.
func on(t *testing.T, size int, records ...api.Msg) (*disk.Disk, *log.Log) {
	t.Helper()
	d, e := disk.New(size)
	if e != api.OK {
		t.Fatalf("disk.New(%d): %v", size, e)
	}
	l, _ := log.Open(d)
	for _, r := range records {
		if e := l.Write(r); e != api.OK {
			t.Fatalf("Write: %v", e)
		}
	}
	return d, l
}

// of: the participant of some records, which are on a disk with much room.
func of(t *testing.T, records ...api.Msg) (*disk.Disk, *Part) {
	t.Helper()
	d, l := on(t, api.MaxDisk, records...)
	p := New(l)
	p.Replay(records...)
	return d, p
}

// again: the participant on a disk behind a crash that keeps nothing, and the records there.
func again(d *disk.Disk) (*Part, []api.Msg) {
	d.Crash(0)
	l, records := log.Open(d)
	p := New(l)
	p.Replay(records...)
	return p, records
}

// text: a message in short, if it has nothing but what a participant writes.
func text(r api.Msg) string {
	s := ""
	for _, x := range r.Muts {
		s += " " + map[bool]string{false: "+", true: "-"}[x.Delete] + tuple.Print(x.Tuple)
	}
	for _, x := range r.Pre {
		s += " " + map[bool]string{false: "?", true: "!"}[x.Absent] + tuple.Print(x.Tuple)
	}
	m := r
	m.Muts, m.Pre = nil, nil
	switch {
	case reflect.DeepEqual(m, api.Msg{Kind: 3, From: r.From, Id: r.Id}):
		return fmt.Sprintf("%d/%d%s", r.Id, r.From, s)
	case reflect.DeepEqual(r, decided(r.Id, r.Rev)):
		return fmt.Sprintf("%d=%d", r.Id, r.Rev)
	}
	return fmt.Sprintf("%v", r)
}

// texts: messages in short.
func texts(records []api.Msg) string {
	var list []string
	for _, r := range records {
		list = append(list, text(r))
	}
	return strings.Join(list, "; ")
}

// rows: the rows of a participant in short.
func rows(p *Part) string {
	var list []string
	for _, r := range p.Rows() {
		list = append(list, fmt.Sprintf("%s %d-%d", tuple.Print(r.Tuple), r.Since, r.Until))
	}
	return strings.Join(list, "; ")
}

// tells: all that a participant tells, of some Ids, and of tuples.
func tells(p *Part, ids []int64, tuples ...string) string {
	s := "pending " + texts(p.Pending()) + "\nrows " + rows(p) + "\nlocked"
	for _, x := range tuples {
		s += fmt.Sprintf(" %d", p.Locked(tup(x)))
	}
	s += "\ndecided"
	for _, id := range ids {
		s += fmt.Sprintf(" %v", p.Decided(id))
	}
	return s
}

// all: all that a participant of these tests tells.
func all(p *Part) string {
	return tells(p, []int64{-1, 0, 1, 2, 3, 4, 5, 6, 7, 8, 9, math.MaxInt64}, ann, bob, cat, dan)
}

// P15.1
func TestNew(t *testing.T) {
	d, l := on(t, 100, api.Msg{Kind: 77})
	size := d.Size()
	p, want := New(l), "pending \nrows \nlocked 0 0 0 0\ndecided false false false false false false false false false false false false"
	if all(p) != want || p.Watermark() != 0 {
		t.Errorf("new: %s", all(p))
	}
	p.Replay()
	if all(p) != want || d.Size() != size {
		t.Errorf("Replay of nothing: %s", all(p))
	}
	if KPrepare != 3 || KDecide != 4 {
		t.Errorf("Kinds %d, %d", KPrepare, KDecide)
	}
}

// P15.2 to P15.4: the chapter's example.
func TestExample(t *testing.T) {
	d, p := of(t)
	if e := p.Prepare(ask(5, "+"+ann)); e != api.OK {
		t.Fatalf("Prepare of 5: %v", e)
	}
	p, _ = again(d)
	if e := p.Prepare(ask(6, "+"+ann)); e != api.ErrLocked {
		t.Errorf("Prepare of 6: %v", e)
	}
	if e := p.Decide(5, true, 3); e != api.OK {
		t.Errorf("Decide at 3: %v", e)
	}
	for rev, want := range map[int64]bool{2: false, 3: true, 4: true} {
		if there, e := p.Has(tup(ann), rev); there != want || e != api.OK {
			t.Errorf("at %d: %v, %v", rev, there, e)
		}
	}
	if e := p.Decide(5, true, 4); e != api.ErrState {
		t.Errorf("Decide at 4: %v", e)
	}
}

// some: the records of a participant: ann is there, bob was, cat has never been; 1 is committed and 2 isn't, 8 has locked cat and (by a condition) dan.
func some() []api.Msg {
	return []api.Msg{
		ask(1, "+"+ann, "+"+bob), ask(2, "-"+dan, "+"+cat), decided(1, 3), decided(2, 0), ask(3, "-"+bob, "?"+ann), decided(3, 5), ask(8, "+"+cat, "!"+dan),
	}
}

// someTold: what the participant of those records tells.
const someTold = "pending 8/2 +" + cat + " !" + dan + "\nrows " + ann + " 3-0; " + bob + " 3-5\nlocked 0 0 8 8\ndecided false false true true true false false false false false false false"

// P15.2: which error, and which of several; a promise that is refused changes nothing.
func TestPrepare(t *testing.T) {
	form := api.Tuple{Object: "doc", Relation: "viewer", User: "user:ann"}
	name := api.Tuple{Object: "doc:a", Relation: "viewer", User: "user:ann#"}
	more := func(m api.Msg, list ...any) api.Msg {
		for _, x := range list {
			switch x := x.(type) {
			case api.Mutation:
				m.Muts = append(m.Muts, x)
			case api.Condition:
				m.Pre = append(m.Pre, x)
			}
		}
		return m
	}
	for _, x := range []struct {
		what string
		m    api.Msg
		want api.Errno
	}{
		// What is decided or promised, whatever else is asked for.
		{"committed", ask(1, "+"+ann, "+"+bob), api.OK}, {"committed, with a lock", ask(1, "+"+cat), api.OK}, {"committed, all wrong", more(ask(1), api.Mutation{Tuple: form}), api.OK},
		{"aborted", ask(2, "-"+dan, "+"+cat), api.ErrState}, {"aborted, with nothing", ask(2), api.ErrState}, {"aborted, all wrong", more(ask(2), api.Mutation{Tuple: form}), api.ErrState},
		{"promised", ask(8, "+"+cat, "!"+dan), api.OK}, {"promised, other ones", ask(8, "+"+ann, "+"+ann), api.OK}, {"promised, all wrong", more(ask(8), api.Mutation{Tuple: form}), api.OK},
		// ErrRange.
		{"Id 0", ask(0), api.ErrRange}, {"Id -1", ask(-1, "+"+cat, "+"+cat, "!"+ann), api.ErrRange}, {"the lowest Id", more(ask(math.MinInt64), api.Mutation{Tuple: form}), api.ErrRange},
		// Layer 5's errors: of the mutations first, then of the conditions.
		{"a wrong mutation", more(ask(9), api.Mutation{Tuple: form}), api.ErrForm}, {"a wrong condition", more(ask(9), api.Condition{Tuple: name}), api.ErrName}, {"a wrong condition, Absent", more(ask(9), api.Condition{Tuple: name, Absent: true}), api.ErrName},
		{"the mutation's first", more(ask(9), api.Condition{Tuple: name}, api.Mutation{Tuple: form}), api.ErrForm}, {"the mutation's first too", more(ask(9), api.Condition{Tuple: form}, api.Mutation{Delete: true, Tuple: name}), api.ErrName},
		{"the second mutation's", more(ask(9, "+"+ann), api.Mutation{Tuple: name}, api.Mutation{Tuple: form}), api.ErrName}, {"the zero tuple", more(ask(9), api.Mutation{}), api.ErrForm},
		{"ahead of ErrTwice", more(ask(9, "+"+bob, "+"+bob), api.Condition{Tuple: form}), api.ErrForm}, {"ahead of ErrLocked", more(ask(9, "+"+cat), api.Condition{Tuple: name}), api.ErrName}, {"ahead of ErrCondition", more(ask(9, "!"+ann), api.Condition{Tuple: form}), api.ErrForm},
		// ErrTwice: of mutations alone.
		{"twice", ask(9, "+"+ann, "+"+bob, "+"+ann), api.ErrTwice}, {"put and taken away", ask(9, "-"+ann, "+"+ann), api.ErrTwice}, {"ahead of ErrLocked", ask(9, "+"+cat, "-"+cat), api.ErrTwice}, {"ahead of ErrCondition", ask(9, "+"+ann, "+"+ann, "!"+ann), api.ErrTwice},
		{"a mutation and conditions", ask(9, "-"+ann, "?"+ann, "?"+ann), api.OK}, {"conditions twice", ask(9, "!"+bob, "!"+bob), api.OK},
		// ErrLocked.
		{"a mutation's", ask(9, "+"+ann, "-"+cat), api.ErrLocked}, {"a condition's", ask(9, "!"+cat), api.ErrLocked}, {"locked by a condition", ask(9, "+"+dan), api.ErrLocked}, {"both by conditions", ask(9, "!"+dan), api.ErrLocked},
		{"ahead of ErrCondition", ask(9, "!"+ann, "?"+dan), api.ErrLocked}, {"ahead of ErrCondition too", ask(9, "+"+cat, "?"+bob), api.ErrLocked},
		// ErrCondition: what is there now.
		{"absent, but there", ask(9, "!"+ann), api.ErrCondition}, {"not there any more", ask(9, "?"+bob), api.ErrCondition}, {"never there", ask(9, "?doc:c#viewer@user:ann"), api.ErrCondition},
		{"the second condition", ask(9, "?"+ann, "?"+bob), api.ErrCondition}, {"the first condition", ask(9, "!"+ann, "!"+bob), api.ErrCondition}, {"both of one tuple", ask(9, "?"+ann, "!"+ann), api.ErrCondition},
		{"there", ask(9, "?"+ann), api.OK}, {"absent", ask(9, "!"+bob), api.OK}, {"all", ask(9, "+"+ann, "!"+bob, "-doc:c#viewer@user:ann", "?"+ann), api.OK},
		// Mutations alone have no conditions; a promise may have nothing.
		{"put what is there", ask(9, "+"+ann), api.OK}, {"take away what isn't", ask(9, "-"+bob), api.OK}, {"nothing", ask(9), api.OK}, {"the greatest Id", ask(math.MaxInt64, "+"+ann), api.OK}, {"other tuples of the objects", ask(9, "+doc:b#owner@user:cat", "+doc:b#viewer@user:ann"), api.OK},
	} {
		d, p := of(t, some()...)
		size := d.Size()
		if e := p.Prepare(x.m); e != x.want {
			t.Errorf("%s: %v, want %v", x.what, e, x.want)
		}
		fresh := x.want == api.OK && x.m.Id != 1 && x.m.Id != 8
		if told := all(p); fresh != (told != someTold) || fresh != (d.Size() > size) {
			t.Errorf("%s: then %d bytes more, %s", x.what, d.Size()-size, told)
		}
		told := all(p)
		if p, _ := again(d); all(p) != told {
			t.Errorf("%s, behind a crash: %s, want %s", x.what, all(p), told)
		}
	}
}

// P15.2: a tuple is there now as its last row says, wherever that began.
func TestConditionsNow(t *testing.T) {
	for _, x := range []struct {
		revs  []int64 // at these it is put and taken away by turns
		there bool
	}{
		{nil, false}, {[]int64{1}, true}, {[]int64{api.MaxRev}, true}, {[]int64{1, 2}, false}, {[]int64{1, api.MaxRev}, false}, {[]int64{api.MaxRev - 1, api.MaxRev}, false}, {[]int64{1, 2, 3}, true}, {[]int64{1, 2, api.MaxRev}, true}, {[]int64{1, 2, 3, 4}, false},
	} {
		_, p := of(t)
		for i, rev := range x.revs {
			if e := p.Prepare(ask(int64(i+1), "+-"[i%2:i%2+1]+ann)); e != api.OK {
				t.Fatal(e)
			}
			if e := p.Decide(int64(i+1), true, rev); e != api.OK {
				t.Fatal(e)
			}
		}
		for sign, want := range map[string]bool{"?": x.there, "!": !x.there} {
			e := p.Prepare(ask(100, sign+ann))
			if (e == api.OK) != want || e != api.OK && e != api.ErrCondition {
				t.Errorf("%v: %s%s: %v", x.revs, sign, ann, e)
			}
			p.Decide(100, false, 0)
			if p.Locked(tup(ann)) != 0 {
				t.Fatal("locked still")
			}
			_, p = of(t, replayed(x.revs)...)
		}
	}
}

// replayed: the records of what puts a tuple and takes it away by turns.
func replayed(revs []int64) []api.Msg {
	var records []api.Msg
	for i, rev := range revs {
		records = append(records, ask(int64(i+1), "+-"[i%2:i%2+1]+ann), decided(int64(i+1), rev))
	}
	return records
}

// P15.2: what is promised isn't there yet.
func TestConditionsOfWhatIsPromised(t *testing.T) {
	_, p := of(t)
	if e := p.Prepare(ask(5, "+"+ann, "?"+ann)); e != api.ErrCondition {
		t.Errorf("put by the promise itself: %v", e)
	}
	if e := p.Prepare(ask(6, "+"+ann, "!"+ann)); e != api.OK || rows(p) != "" {
		t.Errorf("absent ahead of the promise: %v, %s", e, rows(p))
	}
}

// P15.2: the record, which is durable, and none of the message's other fields.
func TestPromiseWritten(t *testing.T) {
	d, l := on(t, 2000)
	p := New(l)
	m := ask(5, "+"+ann, "-"+bob, "!"+cat, "!"+dan)
	want := text(m)
	m.Kind, m.To, m.Rev, m.Epoch, m.Slot, m.Flag, m.Nodes, m.Rows = 99, 4, 7, 2, 3, true, []int{1}, []api.Row{{Tuple: tup(ann), Since: 1}}
	if e := p.Prepare(m); e != api.OK || d.Durable() != d.Size() || d.Size() == 0 {
		t.Fatalf("Prepare: %v, %d bytes durable of %d", e, d.Durable(), d.Size())
	}
	if texts(p.Pending()) != want {
		t.Errorf("pending: %s, want %s", texts(p.Pending()), want)
	}
	if p.Locked(tup(ann)) != 5 || p.Locked(tup(bob)) != 5 || p.Locked(tup(cat)) != 5 || p.Locked(tup(dan)) != 5 || p.Locked(tup("doc:a#viewer@user:dan")) != 0 || p.Locked(api.Tuple{}) != 0 {
		t.Error("Locked")
	}
	p, records := again(d)
	if texts(records) != want || texts(p.Pending()) != want {
		t.Errorf("written: %s, pending %s, want %s", texts(records), texts(p.Pending()), want)
	}
	for _, from := range []int{0, -1, math.MinInt, math.MaxInt} {
		d, p := of(t)
		if e := p.Prepare(api.Msg{From: from, Id: 1}); e != api.OK || p.Pending()[0].From != from {
			t.Errorf("From %d: %v, %v", from, e, p.Pending())
		}
		if p, _ := again(d); p.Pending()[0].From != from {
			t.Errorf("From %d, behind a crash: %v", from, p.Pending())
		}
	}
}

// P15.3: in the order of the promises, not of their Ids, nor of what is decided.
func TestPending(t *testing.T) {
	d, p := of(t)
	ids := []int64{7, 3, math.MaxInt64, 1, 9, 2, 8}
	for i, id := range ids {
		if e := p.Prepare(ask(id, fmt.Sprintf("+doc:a#viewer@user:u%d", i))); e != api.OK {
			t.Fatal(e)
		}
	}
	p.Prepare(ask(3)) // it has its place already
	for i, gone := range []int64{1, 7, 8, 9} {
		if e := p.Decide(gone, i%2 == 0, int64(i+1)); e != api.OK {
			t.Fatal(e)
		}
		ids = slices.DeleteFunc(ids, func(id int64) bool { return id == gone })
		for _, x := range p.Pending() {
			if x.Kind != 3 || x.From != 2 || len(x.Muts) != 1 || p.Locked(x.Muts[0].Tuple) != x.Id {
				t.Errorf("behind %d: %v", gone, x)
			}
		}
		other, _ := again(d)
		for _, q := range []*Part{p, other} {
			var told []int64
			for _, x := range q.Pending() {
				told = append(told, x.Id)
			}
			if !slices.Equal(told, ids) {
				t.Errorf("behind %d: pending %d, want %d", gone, told, ids)
			}
		}
		p = other
	}
	if e := p.Prepare(ask(4, "+"+ann)); e != api.OK {
		t.Fatal(e)
	}
	if list := p.Pending(); len(list) != 4 || list[3].Id != 4 {
		t.Errorf("a new one: %s", texts(list))
	}
}

// P15.3: an Id that was never promised isn't decided, whatever was said of it.
func TestDecided(t *testing.T) {
	_, p := of(t)
	p.Prepare(ask(5, "+"+ann))
	p.Prepare(ask(6, "+"+ann)) // refused
	p.Decide(6, false, 0)
	p.Decide(6, true, 3)
	if p.Decided(5) || p.Decided(6) || p.Decided(0) {
		t.Error("decided ahead of all decisions")
	}
	p.Decide(5, true, 0) // refused
	if p.Decided(5) || p.Locked(tup(ann)) != 5 {
		t.Error("decided by what was refused")
	}
	p.Decide(5, true, 3)
	if !p.Decided(5) || p.Decided(6) {
		t.Error("decided")
	}
	if e := p.Prepare(ask(6, "+"+ann)); e != api.OK || p.Decided(6) {
		t.Errorf("Prepare of what was said to be nothing: %v", e)
	}
}

// P15.4: which error, and which of several; a decision that is refused changes nothing.
func TestDecide(t *testing.T) {
	had := append(some(), ask(5, "-"+ann, "+doc:c#viewer@user:ann", "!"+bob), ask(6, "!doc:z#viewer@user:ann"), ask(7))
	for _, x := range []struct {
		id     int64
		commit bool
		rev    int64
		want   api.Errno
	}{
		// What is decided.
		{1, true, 3, api.OK}, {1, true, 4, api.ErrState}, {1, true, 0, api.ErrState}, {1, true, math.MinInt64, api.ErrState}, {1, false, 3, api.ErrState}, {1, false, 0, api.ErrState},
		{2, false, 0, api.OK}, {2, false, 3, api.OK}, {2, false, -1, api.OK}, {2, false, math.MaxInt64, api.OK}, {2, true, 0, api.ErrState}, {2, true, 9, api.ErrState}, {2, true, -1, api.ErrState},
		// What isn't promised.
		{4, true, 9, api.ErrMissing}, {4, true, 0, api.ErrMissing}, {4, false, 9, api.OK}, {4, false, 0, api.OK}, {0, true, 9, api.ErrMissing}, {0, false, 0, api.OK}, {-1, true, -1, api.ErrMissing}, {-1, false, -1, api.OK}, {math.MaxInt64, true, 3, api.ErrMissing},
		// What can't be committed at a revision.
		{5, true, 0, api.ErrRange}, {5, true, -1, api.ErrRange}, {5, true, math.MinInt64, api.ErrRange}, {5, true, api.MaxRev + 1, api.ErrRange}, {5, true, math.MaxInt64, api.ErrRange},
		{5, true, 1, api.ErrOrder}, {5, true, 2, api.ErrOrder}, {5, true, 3, api.ErrOrder}, {6, true, 0, api.ErrRange}, {7, true, -1, api.ErrRange}, {7, true, api.MaxRev + 1, api.ErrRange},
		// What can. That a condition's tuple has other revisions doesn't matter.
		{5, true, 4, api.OK}, {5, true, api.MaxRev, api.OK}, {8, true, 1, api.OK}, {6, true, 1, api.OK}, {7, true, 1, api.OK}, {7, true, api.MaxRev, api.OK},
		{5, false, 4, api.OK}, {5, false, 0, api.OK}, {5, false, math.MinInt64, api.OK}, {8, false, math.MaxInt64, api.OK}, {7, false, 1, api.OK},
	} {
		what := fmt.Sprintf("Decide(%d, %v, %d)", x.id, x.commit, x.rev)
		d, p := of(t, had...)
		before, size := all(p), d.Size()
		if e := p.Decide(x.id, x.commit, x.rev); e != x.want {
			t.Errorf("%s: %v, want %v", what, e, x.want)
		}
		fresh := x.want == api.OK && x.id >= 5 && x.id <= 8
		told := all(p)
		if fresh != (told != before) || fresh != (d.Size() > size) || fresh && !p.Decided(x.id) || d.Durable() != d.Size() {
			t.Errorf("%s: then %d bytes more, %s", what, d.Size()-size, told)
		}
		p, records := again(d)
		if all(p) != told {
			t.Errorf("%s, behind a crash: %s, want %s", what, all(p), told)
		}
		rev := x.rev
		if !x.commit {
			rev = 0
		}
		if last := records[len(records)-1]; fresh && text(last) != fmt.Sprintf("%d=%d", x.id, rev) {
			t.Errorf("%s: written %s", what, text(last))
		}
		size = d.Size()
		if fresh && (p.Decide(x.id, x.commit, x.rev) != api.OK || p.Decide(x.id, !x.commit, x.rev) != api.ErrState || d.Size() != size) {
			t.Errorf("%s again", what)
		}
	}
}

// P15.4: a commit applies the mutations at its revision; both ways no tuple is locked any more.
func TestEffects(t *testing.T) {
	m := ask(5, "-"+ann, "+"+bob, "+"+dan, "!"+cat)
	had := []api.Msg{ask(1, "+"+ann), decided(1, 2), ask(6, "!doc:c#viewer@user:ann", "+doc:d#viewer@user:ann"), m}
	_, p := of(t, had...)
	if e := p.Decide(5, true, 9); e != api.OK || rows(p) != ann+" 2-9; "+bob+" 9-0; "+dan+" 9-0" {
		t.Errorf("commit: %v, %s", e, rows(p))
	}
	_, q := of(t, had...)
	if e := q.Decide(5, false, 9); e != api.OK || rows(q) != ann+" 2-0" {
		t.Errorf("no commit: %v, %s", e, rows(q))
	}
	for _, p := range []*Part{p, q} {
		for _, x := range []string{ann, bob, cat, dan} {
			if p.Locked(tup(x)) != 0 {
				t.Errorf("%s is locked for %d", x, p.Locked(tup(x)))
			}
		}
		if p.Locked(tup("doc:c#viewer@user:ann")) != 6 || p.Locked(tup("doc:d#viewer@user:ann")) != 6 || texts(p.Pending()) != text(had[2]) {
			t.Errorf("another promise: %s", texts(p.Pending()))
		}
		if e := p.Prepare(ask(7, "+"+ann, "+"+bob, "?doc:e#viewer@user:ann")); e != api.ErrCondition {
			t.Errorf("Prepare of what can't hold: %v", e)
		}
		if e := p.Prepare(ask(7, "+"+ann, "+"+bob, "!"+cat)); e != api.OK || p.Locked(tup(bob)) != 7 {
			t.Errorf("Prepare of what isn't locked any more: %v", e)
		}
	}
	users, e := p.Users("doc:a", "viewer", 9)
	if !slices.Equal(users, []string{"user:bob"}) || e != api.OK {
		t.Errorf("Users: %q, %v", users, e)
	}
	if list, e := p.Of("group:d#member", 9); !slices.Equal(list, []api.Tuple{tup(dan)}) || e != api.OK {
		t.Errorf("Of: %v, %v", list, e)
	}
}

// P15.1: the participant as it was, at once or record by record, and nothing is written.
func TestReplay(t *testing.T) {
	for _, x := range []struct {
		what    string
		records []api.Msg
	}{
		{"all", some()},
		{"other Kinds", slices.Insert(some(), 3, api.Msg{Kind: 1, Id: 8, Rev: 4}, api.Msg{Kind: 2, Id: 8}, api.Msg{Kind: 5, Id: 1}, api.Msg{}, api.Msg{Kind: -3, Id: 5, Muts: ask(5, "+"+dan).Muts}, api.Msg{Kind: 259, Id: 6}, api.Msg{Kind: 6, Id: 1, Flag: true, Rev: 7})},
	} {
		d, l := on(t, 100)
		p, q := New(l), New(l)
		p.Replay(x.records...)
		for _, r := range x.records {
			q.Replay(r)
		}
		if all(p) != someTold || all(q) != someTold || d.Size() != 0 {
			t.Errorf("%s: %s, one by one %s, want %s", x.what, all(p), all(q), someTold)
		}
	}
	// It goes on from there.
	_, p := of(t, some()...)
	for _, x := range []struct{ e, want api.Errno }{
		{p.Decide(1, true, 3), api.OK}, {p.Decide(2, true, 3), api.ErrState}, {p.Prepare(ask(2)), api.ErrState}, {p.Prepare(ask(4, "+"+dan)), api.ErrLocked}, {p.Decide(8, true, 4), api.OK}, {p.Prepare(ask(4, "+"+dan, "?"+cat)), api.OK},
	} {
		if x.e != x.want {
			t.Errorf("behind Replay: %v, want %v", x.e, x.want)
		}
	}
}

// P15.1: each prefix of the records is the participant as it was then.
func TestPrefixes(t *testing.T) {
	d, p := of(t)
	told, sizes := []string{all(p)}, []int{0}
	for _, r := range some() {
		e := api.OK
		if r.Kind == KPrepare {
			e = p.Prepare(r)
		} else {
			e = p.Decide(r.Id, r.Flag, r.Rev)
		}
		if e != api.OK {
			t.Fatalf("%s: %v", text(r), e)
		}
		told, sizes = append(told, all(p)), append(sizes, d.Size())
	}
	if told[len(told)-1] != someTold {
		t.Errorf("called: %s, want %s", told[len(told)-1], someTold)
	}
	bytes := d.Bytes()
	for cut := range len(bytes) + 1 {
		part, _ := disk.New(api.MaxDisk)
		part.Append(bytes[:cut])
		whole := 0
		for whole+1 < len(sizes) && sizes[whole+1] <= cut {
			whole++
		}
		part.Sync()
		if q, _ := again(part); all(q) != told[whole] {
			t.Fatalf("%d bytes: %s, want %s", cut, all(q), told[whole])
		}
	}
}
